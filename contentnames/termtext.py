"""The texts of terms, and the terms of texts."""

from contentnames.errors import BadText
from contentnames.terms import DEEPEST, LARGEST, OPERATIONS, is_term, parts_of

FIGURES = "0123456789"
LETTERS = ("a", "b", "c", "d")


def term_text(term):
    """The text of the term."""
    word = term[0]
    if word == "num":
        return str(term[1])
    if word == "arg":
        return LETTERS[term[1]]
    words = [head_text(term)] + [term_text(part) for part in parts_of(term)]
    return "(" + " ".join(words) + ")"


def head_text(term):
    """What stands straight behind the bracket of the term's text."""
    if term[0] == "call":
        return "#" + term[1]
    if term[0] == "ring":
        return "@" + str(term[1])
    return term[0]


def term_in(text):
    """The term of which this is the text; refused with BadText where there is none."""
    term, end = term_at(text, 0, DEEPEST)
    if end != len(text) or not is_term(term):
        raise BadText(text)
    return term


def term_at(text, start, deep):
    """What is written from start on, at most so deep, and the place behind it.

    Blanks, brackets and words are as in a text of a term; numbers, marks and how many parts
    there are may be wrong yet.
    """
    # Brackets may stand to any depth, so reading ends where no term could be any more.
    if deep == 0:
        raise BadText(text)
    if text[start:start + 1] == "(":
        return bracket_at(text, start, deep)
    word = word_at(text, start)
    return leaf_of(word), start + len(word)


def bracket_at(text, start, deep):
    """What term_at tells, where a bracket stands at start."""
    word = word_at(text, start + 1)
    end = start + 1 + len(word)
    parts = []
    while text[end:end + 1] == " ":
        part, end = term_at(text, end + 1, deep - 1)
        parts.append(part)
    if text[end:end + 1] != ")":
        raise BadText(text)
    if word in OPERATIONS:
        return (word, *parts), end + 1
    if word[:1] == "#":
        return ("call", word[1:], tuple(parts)), end + 1
    if word[:1] == "@":
        return ("ring", number_in(word[1:]), tuple(parts)), end + 1
    raise BadText(text)


def word_at(text, start):
    """The signs from start on up to the next blank or bracket."""
    end = start
    while end < len(text) and text[end] not in " ()":
        end += 1
    return text[start:end]


def leaf_of(word):
    """The argument or the number that the word writes."""
    if word in LETTERS:
        return ("arg", LETTERS.index(word))
    return ("num", number_in(word))


def number_in(word):
    """The number from 0 to LARGEST that the word writes, None where it writes none."""
    # The length is asked first: Python does not read a number of some thousand figures.
    if not 1 <= len(word) <= len(str(LARGEST)):
        return None
    if not all([sign in FIGURES for sign in word]):
        return None
    number = int(word)
    if number > LARGEST or str(number) != word:
        return None
    return number
