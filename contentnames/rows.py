"""Rows, in which people write definitions by names."""

from contentnames.errors import BadRow
from contentnames.terms import DEEPEST, MOST_PARTS, OPERATIONS, is_mark
from contentnames.termtext import number_in

ARGS = ("a", "b", "c", "d")
NAME_SIGNS = "abcdefghijklmnopqrstuvwxyz"
LONGEST_NAME = 8


def is_name(thing):
    """Whether the thing is a name: one to eight letters a to z, no kept word."""
    if not isinstance(thing, str) or not 1 <= len(thing) <= LONGEST_NAME:
        return False
    # The words of operations are kept for these.
    return all([sign in NAME_SIGNS for sign in thing]) and thing not in OPERATIONS


def row_in(text):
    """The name, how many arguments, and the draft that the row writes; refused with BadRow."""
    words = text.split(" ")
    if "=" not in words:
        raise BadRow(text)
    middle = words.index("=")
    names, written = words[:middle], words[middle + 1:]
    if not is_head(names):
        raise BadRow(text)
    try:
        draft, end = draft_at(written, 0, names[1:], DEEPEST)
    except BadRow:
        # What is refused is the whole row, not the one word.
        raise BadRow(text) from None
    if end != len(written):
        raise BadRow(text)
    return (names[0], len(names) - 1, draft)


def is_head(words):
    """Whether the words are a name and none to four unlike arguments."""
    if not 1 <= len(words) <= 1 + MOST_PARTS or not all([is_name(word) for word in words]):
        return False
    return len(set(words[1:])) == len(words) - 1


def draft_at(words, start, args, deep):
    """The draft that the words from start on write, at most so deep, and the place behind it.

    Refused with BadRow(word) of a word that cannot stand where it does.
    """
    word = word_at(words, start)
    # Brackets may stand to any depth, so reading ends where no draft could be any more.
    if deep == 0:
        raise BadRow(word)
    if word == "(":
        return bracket_at(words, start, args, deep)
    if word in args:
        return ("arg", args.index(word)), start + 1
    number = number_in(word)
    if number is None:
        raise BadRow(word)
    return ("num", number), start + 1


def bracket_at(words, start, args, deep):
    """What draft_at tells, where a bracket stands at start."""
    parts = []
    end = start + 2
    while word_at(words, end) != ")":
        part, end = draft_at(words, end, args, deep - 1)
        parts.append(part)
    return headed(word_at(words, start + 1), tuple(parts)), end + 1


def word_at(words, place):
    """The word at this place, an empty one behind the last."""
    return words[place] if place < len(words) else ""


def headed(word, parts):
    """The draft of the word behind a bracket and of what follows it; refused with BadRow(word)."""
    if word in OPERATIONS:
        if len(parts) != OPERATIONS[word]:
            raise BadRow(word)
        return (word, *parts)
    if len(parts) > MOST_PARTS:
        raise BadRow(word)
    if word[:1] == "#" and is_mark(word[1:]):
        return ("call", word[1:], parts)
    if not is_name(word):
        raise BadRow(word)
    return ("name", word, parts)


def row_text(name, many, draft, *, args=ARGS):
    """The row, the first of args being the names of its arguments."""
    return " ".join([name, *args[:many], "=", draft_text(draft, args)])


def draft_text(draft, args):
    """How a row writes the draft."""
    word = draft[0]
    if word == "num":
        return str(draft[1])
    if word == "arg":
        return args[draft[1]]
    if word in OPERATIONS:
        head, parts = word, draft[1:]
    else:
        head, parts = called_text(draft), draft[2]
    words = ["(", head] + [draft_text(part, args) for part in parts] + [")"]
    return " ".join(words)


def called_text(call):
    """How a row writes what the call calls."""
    return call[1] if call[0] == "name" else "#" + call[1]
