"""[13]: rows, in which people write by names."""

import copy
import random
import unittest

from contentnames import rows
from contentnames.errors import BadRow
from contentnames.rows import ARGS, is_name, row_in, row_text
from contentnames.terms import deep_of, is_term
from samples import MARK, things, with_a_sign_changed

KEPT = ["add", "less", "times", "under", "if"]
LETTERS = "abcdefghijklmnopqrstuvwxyz"
# Rows, and what is read in them: of each word at least one.
WRITTEN = [
    ("f = 0", ("f", 0, ("num", 0))),
    ("f = 1000002", ("f", 0, ("num", 1000002))),
    ("f x = x", ("f", 1, ("arg", 0))),
    ("f x y z w = w", ("f", 4, ("arg", 3))),
    ("f x y = ( add x y )", ("f", 2, ("add", ("arg", 0), ("arg", 1)))),
    ("f y x = ( less x y )", ("f", 2, ("less", ("arg", 1), ("arg", 0)))),
    ("f x = ( times x 10 )", ("f", 1, ("times", ("arg", 0), ("num", 10)))),
    ("f x = ( under 9 x )", ("f", 1, ("under", ("num", 9), ("arg", 0)))),
    ("f x = ( if x 1 2 )", ("f", 1, ("if", ("arg", 0), ("num", 1), ("num", 2)))),
    ("f = ( g )", ("f", 0, ("name", "g", ()))),
    ("f = ( f )", ("f", 0, ("name", "f", ()))),
    ("f x = ( g x 1 x 2 )", ("f", 1, ("name", "g", (("arg", 0), ("num", 1), ("arg", 0), ("num", 2))))),
    ("f = ( #0k3f9a )", ("f", 0, ("call", "0k3f9a", ()))),
    ("f x = ( #000000 x 1 )", ("f", 1, ("call", "000000", (("arg", 0), ("num", 1))))),
    ("f x = ( #zzzzzz ( g ( #999999 1 2 3 4 ) ) )",
     ("f", 1, ("call", "zzzzzz", (("name", "g", (("call", "999999", tuple(("num", at) for at in (1, 2, 3, 4))),)),)))),
    ("even x = ( if x ( odd ( less x 1 ) ) 1 )",
     ("even", 1, ("if", ("arg", 0), ("name", "odd", (("less", ("arg", 0), ("num", 1)),)), ("num", 1)))),
    # An ARG may be called as a NAME is, and a NAME may be an ARG's.
    ("f x = ( x x )", ("f", 1, ("name", "x", (("arg", 0),)))),
    ("x x = ( x x )", ("x", 1, ("name", "x", (("arg", 0),)))),
    ("abcdefgh ijklmnop qrstuvwx yz = qrstuvwx", ("abcdefgh", 3, ("arg", 1))),
    ("a d c b a = ( add a d )", ("a", 4, ("add", ("arg", 3), ("arg", 0)))),
    ("tell names = ( undo names )", ("tell", 1, ("name", "undo", (("arg", 0),)))),
]


def nested(deep, word):
    """A draft of calls of a word that is just so deep, and how it's written with the one ARG x."""
    draft, text = ("arg", 0), "x"
    for step in range(deep - 1):
        other = (("num", step), str(step))
        if word == "name":
            draft, text = ("name", "g", (draft,)), f"( g {text} )"
        elif word == "call":
            draft, text = ("call", MARK, (other[0], draft)), f"( #{MARK} {other[1]} {text} )"
        elif word == "if":
            at = step % 3
            parts = [(("num", 1), "1"), (("num", 2), "2")]
            parts.insert(at, (draft, text))
            draft, text = ("if", *(part for part, _ in parts)), f"( if {' '.join(part for _, part in parts)} )"
        elif step % 2:
            draft, text = (word, draft, other[0]), f"( {word} {text} {other[1]} )"
        else:
            draft, text = (word, other[0], draft), f"( {word} {other[1]} {text} )"
    return draft, text


def a_draft(chance, many, deep):
    """Some draft with so many arguments that is at most so deep."""
    word = chance.choice(["num", "arg", "name", "call"] + KEPT)
    if word in KEPT and deep == 1 or word == "arg" and not many:
        word = "num"
    if word == "num":
        return ("num", chance.choice([0, 1, 10, 99999, 1000002]))
    if word == "arg":
        return ("arg", chance.randrange(many))
    if word in KEPT:
        return (word, *(a_draft(chance, many, deep - 1) for _ in range(3 if word == "if" else 2)))
    called = chance.choice(["g", "h", "abcdefgh", "a", "x"]) if word == "name" else chance.choice([MARK, "000000"])
    parts = chance.randint(0, 4) if deep > 1 else 0
    return (word, called, tuple(a_draft(chance, many, deep - 1) for _ in range(parts)))


def written(draft, args):
    """How the draft is written, by going through it."""
    if draft[0] == "num":
        return str(draft[1])
    if draft[0] == "arg":
        return args[draft[1]]
    head, parts = draft[0], draft[1:]
    if head in ("name", "call"):
        head, parts = ("#" if head == "call" else "") + draft[1], draft[2]
    return "( " + "".join(word + " " for word in [head, *(written(part, args) for part in parts)]) + ")"


class TestIsName(unittest.TestCase):
    def test_one_to_eight_letters(self):
        for many in range(1, 9):
            for letter in LETTERS:
                self.assertIs(is_name(letter * many), True)
        for name in ["a", "abcdefgh", "zyxwvuts", "tell", "name", "num", "ring", "call", "arg", "mine"]:
            self.assertIs(is_name(name), True, name)

    def test_none_and_nine(self):
        for text in ["", "abcdefghi", "a" * 9, "a" * 2000]:
            self.assertIs(is_name(text), False, text)

    def test_kept_words(self):
        for word in KEPT:
            self.assertIs(is_name(word), False, word)
            for other in [word + "x", "x" + word, word[:-1], word + word[:1]]:
                self.assertIs(is_name(other), True, other)

    def test_other_signs(self):
        for sign in ["A", "Z", "0", "9", " ", "#", "(", ")", "=", ";", "_", "-", ".", "`", "{", "\n", "\t", "\x00", "/",
                     "\u00e9", "\u0430", "\uff41", "\u00aa", "\ud800", "\U0001d44e"]:
            for text in [sign, "ab" + sign, sign + "ab", "a" + sign + "b", "abcdefg" + sign]:
                self.assertIs(is_name(text), False, text)

    def test_things_of_any_kind(self):
        names = ["num", "add", "a"]
        for thing in things() + [["a"], ("a",), ["a", "b"], 7, -1, ["f"] * 3, {"a": 1}, b"a"]:
            self.assertIs(is_name(thing), isinstance(thing, str) and thing in names and thing not in KEPT, thing)


class TestRowIn(unittest.TestCase):
    def refused(self, text):
        for _ in range(2):
            with self.assertRaises(BadRow) as caught:
                row_in(text)
            self.assertIs(type(caught.exception), BadRow)
            self.assertEqual(caught.exception.what, text)

    def test_rows(self):
        for text, told in WRITTEN:
            self.assertEqual(row_in(text), told, text)
            self.assertIs(type(row_in(text)), tuple)

    def test_drafts_without_names_are_terms(self):
        for text, (_, _, draft) in WRITTEN:
            if "name" not in str(draft):
                self.assertIs(is_term(draft), True, text)

    def test_there_and_back(self):
        for text, (name, many, draft) in WRITTEN:
            args = text.split(" ")[1:1 + many]
            self.assertEqual(row_text(name, many, draft, args=args), text)

    def test_some_drafts_there_and_back(self):
        chance = random.Random(41)
        for _ in range(500):
            many = chance.randint(0, 4)
            draft = a_draft(chance, many, chance.randint(1, 6))
            args = chance.sample(["a", "b", "c", "d", "x", "y", "abcdefgh", "f", "g"], many)
            text = row_text("f", many, draft, args=args)
            self.assertEqual(text, " ".join(["f", *args, "=", written(draft, args)]))
            self.assertEqual(row_in(text), ("f", many, draft))
            self.assertEqual(row_in(row_text("f", many, draft)), ("f", many, draft))

    def test_blanks(self):
        for text, _ in WRITTEN:
            for changed in [" " + text, text + " ", text.replace(" ", "  ", 1), text.replace("=", "= "),
                            text.replace(" ", "\t"), text.replace(" ", "\n", 1), text + "\n", "\n" + text,
                            text.replace("= ", "="), text.replace(" =", "="), text.replace(" ", "\u00a0", 1)]:
                self.refused(changed)
            if "(" in text:
                for changed in [text.replace("( ", "(", 1), text.replace(" )", ")", 1), text.replace("( ", "(  ", 1)]:
                    self.refused(changed)

    def test_names(self):
        for name in ["a", "z", "abcdefgh", "iff", "ad", "lesss", "time"]:
            self.assertEqual(row_in(f"{name} = 1"), (name, 0, ("num", 1)))
            self.assertEqual(row_in(f"f {name} = {name}"), ("f", 1, ("arg", 0)))
            self.assertEqual(row_in(f"f = ( {name} )"), ("f", 0, ("name", name, ())))
        for name in ["", "abcdefghi", "A", "a1", "1", "0", "f-g", "#0k3f9a", "=", "(", ")", ";", "\u00e9"] + KEPT:
            self.refused(f"{name} = 1")
            self.refused(f"f {name} = 1")
            self.refused(f"f x {name} = x")
            if name != "#0k3f9a":
                self.refused(f"f = ( {name} )")

    def test_kept_words_with_other_numbers_of_parts(self):
        for word in KEPT:
            for many in range(6):
                text = " ".join(["f = (", word] + ["1"] * many + [")"])
                if many == (3 if word == "if" else 2):
                    self.assertEqual(row_in(text), ("f", 0, (word,) + (("num", 1),) * many))
                else:
                    self.refused(text)

    def test_args_unlike_four_and_five(self):
        self.assertEqual(row_in("f a b c d = d"), ("f", 4, ("arg", 3)))
        for text in ["f a b c d e = 1", "f a b c d e = e", "f a a = 1", "f a b a = 1", "f a b c c = a", "f x x x x = 1",
                     "f a b c d a = 1", "f aa aa = 1"]:
            self.refused(text)
        self.assertEqual(row_in("f f = f"), ("f", 1, ("arg", 0)))

    def test_words_that_are_no_args(self):
        for text in ["f = x", "f x = y", "f x = f", "f = f", "f x = xx", "f xx = x", "f x = ( add x y )", "f x = X",
                     "f x y = ( g x y z )", "f = #0k3f9a", "f x = ( g f )", "f x = add", "f add = 1"]:
            self.refused(text)

    def test_numbers(self):
        for number in ["0", "1", "9", "10", "100", "999999", "1000000", "1000001", "1000002"]:
            self.assertEqual(row_in(f"f = {number}"), ("f", 0, ("num", int(number))))
            self.assertEqual(row_in(f"f x = ( add {number} x )"), ("f", 1, ("add", ("num", int(number)), ("arg", 0))))
        for number in ["1000003", "1000010", "2000000", "9999999", "10000000", "00", "01", "007", "-1", "+1", "-0", "1.0",
                       "1_0", "1e3", "0x1", "\u0661", "\u00b2", "\uff11", "9" * 1900, "1" + "0" * 1900, "0" * 1900, "1,"]:
            self.refused(f"f = {number}")
            self.refused(f"f x = ( g {number} )")

    def test_eight_deep_and_nine(self):
        for word in ["name", "call"] + KEPT:
            for deep in range(1, 9):
                draft, text = nested(deep, word)
                self.assertEqual(row_in("f x = " + text), ("f", 1, draft))
                if word != "name":
                    self.assertEqual(deep_of(draft), deep)
            for deep in [9, 10, 20, 60]:
                self.refused("f x = " + nested(deep, word)[1])
        for _, text in [nested(7, "name"), nested(7, "add")]:
            # A call of none is one deep.
            self.assertEqual(row_in("f x = " + text.replace("x", "( g )"))[1], 1)
            self.assertEqual(row_in("f x = " + text.replace("x", "( g ( h ) )"))[1], 1)
            self.refused("f x = " + text.replace("x", "( g ( h ( g ) ) )"))
            self.refused("f x = " + text.replace("x", "( g ( h x ) )"))

    def test_parts_none_to_four_and_five(self):
        for head, called in [("g", ("name", "g")), (f"#{MARK}", ("call", MARK))]:
            for many in range(5):
                text = " ".join(["f = (", head] + ["1"] * many + [")"])
                self.assertEqual(row_in(text), ("f", 0, (*called, (("num", 1),) * many)))
            for many in [5, 6, 50]:
                self.refused(" ".join(["f = (", head] + ["1"] * many + [")"]))

    def test_marks_of_five_six_and_seven_signs(self):
        for mark in ["000000", "zzzzzz", "0k3f9a", "abcdef"]:
            self.assertEqual(row_in(f"f = ( #{mark} )"), ("f", 0, ("call", mark, ())))
        for mark in ["", "00000", "0000000", "0K3F9A", "0k3f9", "0k3f9ab", "#0k3f9a", "0k3f-a", "0k3f9\u00e9", "@0"]:
            self.refused(f"f = ( #{mark} )")
            self.refused(f"f = ( #{mark} 1 )")
        for text in ["f = ( # 0k3f9a )", "f = ( 0k3f9a )", "f = ( @0 )", "f = ( @0 1 )", "f = ( #add 1 2 )",
                     "f = ( \u00230k3f9a# )"]:
            self.refused(text)

    def test_brackets(self):
        for text in ["f = (", "f = )", "f = ( )", "f = ( ( g ) )", "f = ( g", "f = g )", "f = ( g ) )", "f = ( ( g )",
                     "f = ( g ( )", "f = ( add 1 2", "f = ( 1 )", "f = ( g ) 1", "f = 1 1", "f = ( add 1 2 ) ( g )",
                     "f = ( g ( ) )", "f = [ g ]", "f x = ( ( g x ) x )", "f x = x )", "( f x = x )", "f ( x ) = x"]:
            self.refused(text)

    def test_brackets_to_any_depth(self):
        for many in [18, 100, 400, 499]:
            self.refused("f = " + "( g " * many + ")" * many)
            self.refused("f = " + "( g " * many + ") " * (many - 1) + ")")
            self.refused("f = " + "( add 1 " * (many // 2) + "1" + " )" * (many // 2))
            self.refused("f = " + "( " * many)
            self.refused("f = " + " ".join(")" * many))
            self.refused("f = " + "( " * many + "g" + " )" * many)
        self.refused("f = " + "( g " * 5000 + ") " * 4999 + ")")
        self.refused("f = ( g " + "( h ) " * 300 + ")")

    def test_equals(self):
        for text in ["", " ", "=", "f", "f =", "f x =", "= 1", "f 1", "f x x", "f = = 1", "f = 1 =", "f = 1 = 1", "f == 1",
                     "f := 1", "f x 1", "=  1", " = 1", "f = ( = 1 )", "f = ( g = )", "= = ="]:
            self.refused(text)

    def test_other_texts(self):
        self.assertEqual(row_in("tell f = 1"), ("tell", 1, ("num", 1)))
        for text in ["0", "1", "(", ")", "#", "f=1", "f = 1 ; g = 2", "f = 1 ;", "\n", "\x00", "\ud800",
                     "\U0001f600 = 1", "f\n= 1", "0:1", "(add a 1)", "f = (add 1 2)", "f = (add 1 2 )", "f = a", "x" * 2000,
                     " " * 2000, "= " * 1000, "f " * 999, "f = " + "1 " * 900, "f = 1\r", "\ufefff = 1"]:
            self.refused(text)

    def test_every_text_with_a_sign_changed(self):
        right = {text: told for text, told in WRITTEN}
        read = 0
        for changed in with_a_sign_changed(list(right), "afx01#()= ;"):
            try:
                told = row_in(changed)
            except BadRow as refusal:
                self.assertEqual(refusal.what, changed)
                continue
            # What is read writes just this text again.
            name, many, draft = told
            words = changed.split(" ")
            self.assertEqual(" ".join([name, *words[1:1 + many], "=", written(draft, words[1:1 + many])]), changed)
            self.assertEqual(len(set(words[1:1 + many])), many)
            self.assertTrue(all(is_name(word) for word in words[:1 + many]))
            read += 1
        self.assertGreater(read, 100)


class TestRowText(unittest.TestCase):
    def test_args(self):
        self.assertEqual(ARGS, ("a", "b", "c", "d"))
        self.assertIs(rows.ARGS, ARGS)

    def test_of_each_word(self):
        for text, (name, many, draft) in WRITTEN:
            args = text.split(" ")[1:1 + many]
            for handed in [args, tuple(args), args + ["w", "v"], tuple(args) + ("z",)]:
                self.assertEqual(row_text(name, many, draft, args=handed), text)

    def test_args_left_out(self):
        draft = ("name", "g", (("arg", 0), ("arg", 1), ("arg", 2), ("arg", 3)))
        self.assertEqual(row_text("f", 4, draft), "f a b c d = ( g a b c d )")
        self.assertEqual(row_text("f", 0, ("num", 7)), "f = 7")
        self.assertEqual(row_text("f", 1, ("arg", 0)), "f a = a")
        self.assertEqual(row_text("f", 3, ("arg", 0)), "f a b c = a")
        self.assertEqual(row_text("f", 2, ("arg", 1), args=("x", "y")), "f x y = y")
        self.assertEqual(row_text("f", 2, ("arg", 1), args=["x", "y", "z", "w", "v"]), "f x y = y")
        self.assertEqual(row_text("f", 0, ("num", 7), args=[]), "f = 7")
        self.assertEqual(row_text("a", 1, ("name", "a", (("arg", 0),))), "a a = ( a a )")

    def test_calls_of_names_and_marks(self):
        self.assertEqual(row_text("f", 0, ("name", "g", ())), "f = ( g )")
        self.assertEqual(row_text("f", 0, ("call", MARK, ())), f"f = ( #{MARK} )")
        self.assertEqual(row_text("f", 1, ("call", MARK, (("name", "g", (("arg", 0),)), ("num", 0)))),
                         f"f a = ( #{MARK} ( g a ) 0 )")

    def test_nothing_is_changed(self):
        args, draft = ["x", "y"], ("add", ("arg", 0), ("name", "g", (("arg", 1),)))
        kept = copy.deepcopy((args, draft))
        self.assertEqual([row_text("f", 2, draft, args=args) for _ in range(2)], ["f x y = ( add x ( g y ) )"] * 2)
        self.assertEqual((args, draft), kept)


if __name__ == "__main__":
    unittest.main()
