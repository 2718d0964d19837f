"""[5]: the texts of terms, and the terms of texts."""

import itertools
import random
import unittest

from contentnames.errors import BadText
from contentnames.terms import is_term
from contentnames.termtext import term_in, term_text
from samples import a_term, with_a_sign_changed

PAIRS = [
    (("num", 0), "0"),
    (("num", 7), "7"),
    (("num", 10), "10"),
    (("num", 1000002), "1000002"),
    (("arg", 0), "a"),
    (("arg", 1), "b"),
    (("arg", 2), "c"),
    (("arg", 3), "d"),
    (("add", ("arg", 0), ("num", 5)), "(add a 5)"),
    (("less", ("num", 0), ("arg", 3)), "(less 0 d)"),
    (("times", ("arg", 1), ("arg", 1)), "(times b b)"),
    (("under", ("num", 1), ("arg", 2)), "(under 1 c)"),
    (("if", ("arg", 0), ("num", 1), ("arg", 1)), "(if a 1 b)"),
    (("call", "0k3f9a", (("arg", 0), ("num", 1))), "(#0k3f9a a 1)"),
    (("call", "000000", ()), "(#000000)"),
    (("call", "zzzzzz", (("num", 1), ("num", 2), ("num", 3), ("num", 4))), "(#zzzzzz 1 2 3 4)"),
    (("ring", 1, ()), "(@1)"),
    (("ring", 0, (("arg", 0),)), "(@0 a)"),
    (("ring", 11, (("arg", 0), ("arg", 1), ("arg", 2), ("arg", 3))), "(@11 a b c d)"),
    (("add", ("less", ("num", 1), ("num", 2)), ("times", ("num", 3), ("num", 4))), "(add (less 1 2) (times 3 4))"),
    (("if", ("call", "abcdef", ()), ("ring", 2, (("ring", 2, ()),)), ("num", 0)), "(if (#abcdef) (@2 (@2)) 0)"),
    (("call", "0k3f9a", (("call", "0k3f9a", (("arg", 0),)), ("num", 1))), "(#0k3f9a (#0k3f9a a) 1)"),
]


def some_terms(many):
    """So many terms, the same in every run."""
    chance = random.Random(5)
    return [a_term(chance, chance.randint(1, 8)) for _ in range(many)]


def opened(deep, open_sign="(add ", close_sign=" 1)"):
    """A text with just so many terms within one another."""
    return open_sign * (deep - 1) + "a" + close_sign * (deep - 1)


class TestTermText(unittest.TestCase):
    def test_each_kind(self):
        for term, text in PAIRS:
            with self.subTest(text):
                self.assertEqual(term_text(term), text)

    def test_whatever_place_there_is_in_bodies(self):
        self.assertEqual(term_text(("ring", 59, (("ring", 12, ()),))), "(@59 (@12))")

    def test_unlike_terms_have_unlike_texts(self):
        terms = some_terms(500)
        self.assertEqual(len({term_text(term) for term in terms}), len({repr(term) for term in terms}))


class TestTermIn(unittest.TestCase):
    def bad(self, text):
        with self.assertRaises(BadText) as caught:
            term_in(text)
        self.assertEqual(caught.exception.what, text)

    def test_each_kind(self):
        for term, text in PAIRS:
            with self.subTest(text):
                self.assertEqual(term_in(text), term)

    def test_what_is_told_is_a_term_through_and_through(self):
        for _, text in PAIRS:
            self.assertIs(is_term(term_in(text)), True)
        self.assertEqual(term_in("(#000000)")[2], ())
        self.assertIsInstance(term_in("(@1 a)")[2], tuple)

    def test_of_the_text_of_a_term_just_that_term(self):
        for term in some_terms(500):
            with self.subTest(term_text(term)[:60]):
                self.assertEqual(term_in(term_text(term)), term)

    def test_asking_again_tells_the_same(self):
        for _, text in PAIRS:
            self.assertEqual(term_in(text), term_in(text))

    def test_every_short_text(self):
        # Of these signs up to five nothing but these is the text of a term.
        whole = {"a", "b", "(@0)", "(@1)", "(@10)", "(@11)", "0"}
        for long in range(1, 6):
            whole |= {"1" + "".join(signs) for signs in itertools.product("01", repeat=long - 1)}
        for long in range(6):
            for signs in itertools.product("01ab(@) ", repeat=long):
                text = "".join(signs)
                if text in whole:
                    self.assertEqual(term_text(term_in(text)), text)
                else:
                    self.bad(text)

    def test_a_sign_more_fewer_or_another(self):
        texts = [text for _, text in PAIRS] + [term_text(term) for term in some_terms(40) if len(term_text(term)) < 80]
        changed = with_a_sign_changed(texts, " ()#@019az;:A-\n\u0663")
        told = 0
        for text in changed:
            try:
                term = term_in(text)
            except BadText as refusal:
                self.assertEqual(refusal.what, text)
            else:
                told += 1
                self.assertTrue(is_term(term), text)
                self.assertEqual(term_text(term), text)
        self.assertTrue(0 < told < len(changed))

    def test_noughts_ahead(self):
        for text in ["00", "01", "007", "0000001", "01000002", "(add 01 1)", "(add 1 00)", "(@00)", "(@01)", "(@011 a)"]:
            self.bad(text)

    def test_numbers_beyond_their_bounds(self):
        for text in ["-1", "+1", "-0", "1000003", "1000010", "1000004", "9999999", "10000020", "1" * 30, "9" * 2000,
                     "1" * 5000, "1_0", "1.0", "1e3", "0x1", "\u00b2", "\u0661", "\uff11", "(add 1 1000003)"]:
            self.bad(text)

    def test_places_beyond_their_bounds(self):
        for text in ["(@12)", "(@13 a)", "(@59)", "(@-1)", "(@)", "(@ 1)", "(@a)", "(@@1)", "(@#1)", "(@1000003)",
                     "(@" + "1" * 5000 + ")", "@1", "(@\u0661)", "(add 1 (@12))"]:
            self.bad(text)

    def test_args_beyond_their_bounds(self):
        for text in ["e", "z", "A", "D", "aa", "ab", "abcd", "a1", "1a", "arg", "(add a e)"]:
            self.bad(text)

    def test_marks_of_other_lengths_and_signs(self):
        for text in ["(#)", "(#0k3f9)", "(#0k3f9ab)", "(#0K3F9A)", "(#0k3f9 a)", "(##0k3f9)", "(#0k3f9_)", "#0k3f9a",
                     "(0k3f9a)", "(# 0k3f9a)", "(@0k3f9a)", "(#0k3f9\u00e9)", "(#0k3f9a#)"]:
            self.bad(text)

    def test_more_and_fewer_parts(self):
        for text in ["(add)", "(add 1)", "(add 1 2 3)", "(if)", "(if 1 2)", "(if 1 2 3 4)", "(less 1)",
                     "(times 1 2 3)", "(under 1)", "(#0k3f9a 1 2 3 4 5)", "(@1 1 2 3 4 5)"]:
            self.bad(text)

    def test_other_words(self):
        for text in ["(sub 1 2)", "(Add 1 2)", "(adds 1 2)", "(num 1)", "(arg 0)", "(call 1 2)", "(ring 1 2)",
                     "(name f)", "(a 1)", "(1 2)", "(1)", "(a)", "add", "if", "num", "x", "add 1 2", "(add 1 x)"]:
            self.bad(text)

    def test_every_sign_alone_and_beside_a_figure(self):
        for code in list(range(0x700)) + [0x2460, 0x3007, 0x4e00, 0xff10, 0x1d7d8]:
            sign = chr(code)
            if sign in "0123456789":
                self.assertEqual(term_in(sign), ("num", int(sign)))
                self.assertEqual(term_in("1" + sign), ("num", 10 + int(sign)))
            else:
                if sign not in "abcd":
                    self.bad(sign)
                self.bad("1" + sign)
                self.bad(sign + "1")
                self.bad("(add 1 2" + sign + ")")
                self.bad("(@1" + sign + ")")

    def test_blanks(self):
        for text in [" ", "  ", " 1", "1 ", " (add a 5)", "(add a 5) ", "( add a 5)", "(add  a 5)", "(add a  5)",
                     "(add a 5 )", "(adda 5)", "(add a5)", "(add (@1)5)", "(add(@1) 5)", "(add\ta 5)", "(add a\n5)",
                     "(add a 5)\n", "\n1", "1\n", "(add\u00a0a 5)", "1 1", "(@1) (@1)", "( @1)", "(@1 )"]:
            self.bad(text)

    def test_brackets(self):
        for text in ["(", ")", "()", ")(", "(1)", "((add a 5))", "(add a 5", "add a 5)", "(add a 5))", "((add a 5)",
                     "(add (a) 5)", "(add a (5))", "(add a 5)(add a 5)", "(@1)(@1)", "(add () 5)", "1)", "(a",
                     "(add a 5)x", "[add a 5]", "((@1) a)", "((@1))"]:
            self.bad(text)

    def test_the_empty_text_and_any_signs(self):
        for text in ["", "#", "@", ";", ":", "0:1", "1;", "'", "\"", "\\", "\x00", "\ud800", "\U0001f600", "None",
                     "True", "%", "{}", "(\ud800)", "(add \U0001f600 1)"]:
            self.bad(text)

    def test_eight_deep_and_nine_deep(self):
        for open_sign, close_sign in [("(add ", " 1)"), ("(if 1 ", " 2)"), ("(#0k3f9a ", ")"), ("(@3 1 ", " 2 3)")]:
            for deep in range(1, 9):
                text = opened(deep, open_sign, close_sign)
                self.assertEqual(term_text(term_in(text)), text)
            for deep in [9, 10, 50]:
                self.bad(opened(deep, open_sign, close_sign))
        self.bad("(@1 " * 8 + "(@1)" + ")" * 8)
        self.assertEqual(term_text(term_in("(@1 " * 7 + "(@1)" + ")" * 7)), "(@1 " * 7 + "(@1)" + ")" * 7)

    def test_brackets_to_any_depth(self):
        for text in ["(" * 2000, ")" * 2000, "(" * 1000 + ")" * 1000, "()" * 1000, "(add " * 400, "(@1 " * 500,
                     "(@1 " * 400 + ")" * 400, "(@1 " * 398 + "(@1)" + ")" * 398, opened(250), " " * 2000,
                     "( " * 1000, "(add (" * 333]:
            self.bad(text)

    def test_long_texts_of_terms(self):
        wide = "(#0k3f9a " + " ".join(["(@1 1 2 3 4)"] * 4) + ")"
        wider = "(#zzzzzz " + " ".join([wide] * 4) + ")"
        widest = "(@11 " + " ".join([wider] * 4) + ")"
        self.assertEqual(term_text(term_in(wider)), wider)
        self.assertEqual(term_text(term_in(widest)), widest)
        self.bad(widest + ")")
        self.bad(widest[:-1])


if __name__ == "__main__":
    unittest.main()
