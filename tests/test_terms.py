"""[4]: marks and terms, and what is told of them; [2] of what says whether something is so."""

import copy
import unittest

from contentnames.terms import calls_of, deep_of, is_mark, is_term, places_of, size_of
from samples import MARK, NUM, things

ARG = ("arg", 0)


def nested(deep, word="add"):
    """A term of a word that is just so deep, every second one at its right side."""
    term = NUM
    for step in range(deep - 1):
        if word == "call":
            term = ("call", MARK, (term,))
        elif word == "ring":
            term = ("ring", step, (ARG, term))
        elif word == "if":
            term = (("if", term, ARG, NUM), ("if", ARG, term, NUM), ("if", ARG, NUM, term))[step % 3]
        else:
            term = (word, term, ARG) if step % 2 else (word, ARG, term)
    return term


def tree(deep, parts):
    """A full tree of calls."""
    if deep == 1:
        return ("call", MARK, ())
    return ("call", MARK, (tree(deep - 1, parts),) * parts)


class TestIsMark(unittest.TestCase):
    def test_marks(self):
        for mark in ["000000", "999999", "aaaaaa", "zzzzzz", "0k3f9a", "a00000", "00000z", "123456", "abcdef"]:
            self.assertIs(is_mark(mark), True, mark)

    def test_every_figure_and_letter_at_every_place(self):
        for place in range(6):
            for sign in "0123456789abcdefghijklmnopqrstuvwxyz":
                self.assertIs(is_mark("00z00a"[:place] + sign + "00z00a"[place + 1:]), True)

    def test_five_and_seven_signs(self):
        for text in ["", "0", "00000", "abcde", "0000000", "abcdefg", "0k3f9a" * 2]:
            self.assertIs(is_mark(text), False, text)

    def test_other_signs(self):
        for place in range(6):
            for sign in ["A", "Z", "K", " ", "#", "@", "(", ")", ";", ":", "-", "_", ".", "\n", "\x00", "/", "`", "{",
                         "\u00b2", "\u0663", "\u00e9", "\u0430", "\uff11", "\U0001f600", "\ud800"]:
                self.assertIs(is_mark("0k3f9a"[:place] + sign + "0k3f9a"[place + 1:]), False)

    def test_other_things(self):
        for thing in things() + [123456, ["0", "k", "3", "f", "9", "a"], ("0", "k", "3", "f", "9", "a"),
                                 [MARK], (MARK,), [0] * 6]:
            if thing != MARK:
                self.assertIs(is_mark(thing), False, thing)


class TestIsTerm(unittest.TestCase):
    def yes(self, thing):
        self.assertIs(is_term(thing), True, thing)

    def no(self, thing):
        self.assertIs(is_term(thing), False, thing)

    def test_numbers(self):
        for number in [0, 1, 2, 10, 999999, 1000001, 1000002]:
            self.yes(("num", number))
        for number in [-1, -2, 1000003, 1000004, 10 ** 30, -10 ** 30]:
            self.no(("num", number))

    def test_args(self):
        for place in [0, 1, 2, 3]:
            self.yes(("arg", place))
        for place in [-1, 4, 5, 1000002]:
            self.no(("arg", place))

    def test_operations(self):
        for word in ["add", "less", "times", "under"]:
            self.yes((word, NUM, ARG))
            self.yes((word, (word, NUM, ARG), (word, ARG, NUM)))
        self.yes(("if", ARG, NUM, ("if", NUM, NUM, NUM)))

    def test_places(self):
        for place in range(12):
            self.yes(("ring", place, (ARG,)))
        for place in [-1, 12, 13, 59, 1000002]:
            self.no(("ring", place, (ARG,)))

    def test_marks_of_calls(self):
        for mark in ["000000", "zzzzzz", MARK]:
            self.yes(("call", mark, ()))
        for mark in ["", "00000", "0000000", "0K3F9A", "0k3f9 ", "#0k3f9", "0k3f9\u00b2", 123456, 0, None, True,
                     (MARK,), [MARK], list(MARK), tuple(MARK)]:
            self.no(("call", mark, ()))

    def test_none_to_four_parts(self):
        for many in range(5):
            self.yes(("call", MARK, (NUM,) * many))
            self.yes(("ring", 3, (ARG,) * many))
        for many in [5, 6, 100000]:
            self.no(("call", MARK, (NUM,) * many))
            self.no(("ring", 3, (ARG,) * many))

    def test_a_call_of_a_name_stands_in_drafts_alone(self):
        for parts in [(), (NUM,), (ARG, NUM)]:
            self.no(("name", "f", parts))
            self.no(("name", MARK, parts))
            self.no(("add", NUM, ("name", "f", parts)))
            self.no(("call", MARK, (("name", "f", parts),)))

    def test_eight_deep_and_nine_deep(self):
        for word in ["add", "less", "times", "under", "if", "call", "ring"]:
            for deep in range(1, 9):
                self.yes(nested(deep, word))
            for deep in range(9, 12):
                self.no(nested(deep, word))

    def test_nine_deep_at_one_side_only(self):
        self.yes(("add", nested(7), NUM))
        self.yes(("add", NUM, nested(7)))
        self.no(("add", nested(8), NUM))
        self.no(("add", NUM, nested(8)))
        self.no(("if", NUM, NUM, nested(8)))
        self.no(("call", MARK, (NUM, NUM, NUM, nested(8))))

    def test_a_call_without_parts_is_one_deep(self):
        self.yes(("add", nested(7, "call"), ("call", MARK, ())))
        eight = ("call", MARK, ())
        for _ in range(7):
            eight = ("ring", 0, (eight,))
        self.yes(eight)
        self.no(("ring", 0, (eight,)))

    def test_of_any_size(self):
        self.yes(tree(8, 3))
        self.no(tree(9, 2))
        self.no(("call", MARK, (tree(8, 2),) * 4))

    def test_true_and_false_in_the_place_of_a_number(self):
        for flag in [True, False]:
            self.no(("num", flag))
            self.no(("arg", flag))
            self.no(("ring", flag, ()))
            self.no(("ring", flag, (NUM,)))
            self.no(("add", ("num", flag), NUM))

    def test_other_things_in_the_place_of_a_number(self):
        for thing in [None, "", "1", "0", MARK, (), [], (1,), [1], ("num", 1)]:
            self.no(("num", thing))
            self.no(("arg", thing))
            self.no(("ring", thing, ()))

    def test_a_list_in_the_place_of_a_tuple(self):
        for term in [NUM, ARG, ("add", NUM, ARG), ("if", NUM, NUM, NUM), ("call", MARK, ()), ("ring", 0, (NUM,))]:
            self.yes(term)
            self.no(list(term))
            self.no(("add", list(term), NUM))
            self.no(("call", MARK, (list(term),)))
        self.no(("call", MARK, []))
        self.no(("ring", 0, []))
        self.no(("call", MARK, [NUM]))
        self.no(("ring", 0, [NUM, ARG]))

    def test_other_things_in_the_place_of_parts(self):
        for thing in [None, 0, True, "", "a", MARK, NUM, (None,), (0,), (NUM, None), (NUM, MARK), ((),), ([],)]:
            self.no(("call", MARK, thing))
            self.no(("ring", 0, thing))

    def test_other_things_in_the_place_of_a_term(self):
        for thing in things():
            self.no(thing)
            self.no(("add", thing, NUM))
            self.no(("under", NUM, thing))
            self.no(("if", NUM, thing, NUM))
            self.no(("call", MARK, (NUM, thing)))
            self.no(("ring", 0, (thing,)))

    def test_other_words(self):
        for word in ["", "Add", "ADD", "add ", "sub", "ifs", "number", "args", "name", "#", "@", "#" + MARK, MARK, "nu"]:
            self.no((word,))
            self.no((word, 1))
            self.no((word, NUM, NUM))
            self.no((word, MARK, ()))
            self.no((word, NUM, NUM, NUM))
        for word in [None, 0, True, [], ["add"], ("add",), ([],)]:
            self.no((word, NUM, NUM))

    def test_a_part_more_and_a_part_fewer(self):
        for term in [NUM, ARG, ("add", NUM, ARG), ("less", NUM, NUM), ("times", NUM, NUM), ("under", NUM, NUM),
                     ("if", NUM, NUM, NUM), ("call", MARK, ()), ("call", MARK, (NUM, NUM)), ("ring", 0, (NUM,))]:
            self.yes(term)
            self.no(term[:-1])
            self.no(term[:1])
            self.no(term + (NUM,))
            self.no(term + ((),))
            self.no(term + (0,))
            self.no(term + term)
        self.no(("call", MARK, NUM, NUM))
        self.no(("call", MARK))

    def test_what_is_handed_in_stays(self):
        for thing in things() + [nested(8, "if"), ["num", 1], ("call", MARK, [["num", 1]])]:
            kept = copy.deepcopy(thing)
            self.assertIs(is_term(thing), is_term(kept))
            is_mark(thing)
            self.assertEqual(thing, kept)


CALLS = ("add",
         ("call", "zzzzzz", (("ring", 2, ()), ("call", "000001", (("call", "zzzzzz", ()),)))),
         ("if", ("call", "aaaaaa", ()),
          ("ring", 0, (("ring", 11, (("call", "000000", ()),)), ("ring", 2, ()))),
          ("times", ("ring", 0, ()), ("call", "000001", (NUM, ARG)))))


class TestToldOfTerms(unittest.TestCase):
    def test_deep_of(self):
        for term in [NUM, ARG, ("call", MARK, ()), ("ring", 0, ())]:
            self.assertEqual(deep_of(term), 1)
        for word in ["add", "less", "times", "under", "if", "call", "ring"]:
            for deep in range(1, 9):
                self.assertEqual(deep_of(nested(deep, word)), deep)
        self.assertEqual(deep_of(CALLS), 5)

    def test_deep_of_looks_at_every_part(self):
        for deep in range(1, 8):
            term = nested(deep)
            for outer in [("add", term, NUM), ("add", NUM, term), ("if", term, NUM, NUM), ("if", NUM, term, NUM),
                          ("if", NUM, NUM, term), ("call", MARK, (NUM, NUM, NUM, term)),
                          ("ring", 0, (term, NUM, NUM, NUM))]:
                self.assertEqual(deep_of(outer), deep + 1)

    def test_size_of(self):
        for term in [NUM, ("num", 1000002), ARG, ("call", MARK, ()), ("ring", 0, ())]:
            self.assertEqual(size_of(term), 1)
        self.assertEqual(size_of(("add", NUM, NUM)), 3)
        self.assertEqual(size_of(("if", NUM, ARG, ("add", NUM, NUM))), 6)
        self.assertEqual(size_of(("call", MARK, (NUM, ARG, NUM, NUM))), 5)
        self.assertEqual(size_of(("ring", 5, (NUM, ("ring", 0, (NUM,))))), 4)
        self.assertEqual(size_of(nested(8)), 15)
        self.assertEqual(size_of(nested(8, "if")), 22)
        self.assertEqual(size_of(CALLS), 16)
        self.assertEqual(size_of(tree(5, 3)), 1 + 3 + 9 + 27 + 81)
        self.assertEqual(size_of(tree(7, 2)), 127)

    def test_calls_of_rises_with_nothing_twice(self):
        self.assertEqual(calls_of(CALLS), ["000000", "000001", "aaaaaa", "zzzzzz"])
        self.assertEqual(calls_of(("call", MARK, (("call", MARK, ()), ("call", MARK, ())))), [MARK])
        marks = ["9zzzzz", "a00000", "00000a", "000009", "zzzzzz", "b00000"]
        term = ("call", marks[0], (("call", marks[1], (("call", marks[2], ()),)),
                                   ("add", ("call", marks[3], ()), ("call", marks[4], ())),
                                   ("ring", 1, (("call", marks[5], ()),))))
        self.assertEqual(calls_of(term), ["000009", "00000a", "9zzzzz", "a00000", "b00000", "zzzzzz"])

    def test_calls_of_none(self):
        for term in [NUM, ARG, ("add", NUM, ARG), ("ring", 3, (NUM,)), nested(8, "ring")]:
            self.assertEqual(calls_of(term), [])

    def test_calls_of_finds_the_deepest(self):
        term = ("call", MARK, ())
        for _ in range(7):
            term = ("if", NUM, term, ARG)
        self.assertEqual(calls_of(term), [MARK])

    def test_places_of_from_left_to_right(self):
        self.assertEqual(places_of(CALLS), [2, 0, 11, 2, 0])
        term = ("ring", 5, (("ring", 3, (("ring", 9, ()),)), ("ring", 5, ()), ("call", MARK, (("ring", 0, ()),))))
        self.assertEqual(places_of(term), [5, 3, 9, 5, 0])
        self.assertEqual(places_of(("if", ("ring", 2, ()), ("ring", 1, ()), ("ring", 2, ()))), [2, 1, 2])

    def test_places_of_none(self):
        for term in [NUM, ARG, ("add", NUM, ARG), ("call", MARK, (NUM,)), nested(8, "call")]:
            self.assertEqual(places_of(term), [])

    def test_whatever_place_there_is_in_bodies(self):
        term = ("ring", 59, (("ring", 12, ()), ("call", MARK, ())))
        self.assertEqual(places_of(term), [59, 12])
        self.assertEqual((deep_of(term), size_of(term), calls_of(term)), (2, 3, [MARK]))

    def test_what_is_told_is_the_askers_own(self):
        told = calls_of(CALLS)
        told.append("told")
        told[0] = "changed"
        self.assertEqual(calls_of(CALLS), ["000000", "000001", "aaaaaa", "zzzzzz"])
        told = places_of(CALLS)
        told.clear()
        self.assertEqual(places_of(CALLS), [2, 0, 11, 2, 0])
        for tell in [calls_of, places_of]:
            self.assertIs(type(tell(NUM)), list)
            tell(NUM).append("told")
            self.assertEqual(tell(NUM), [])

    def test_what_is_handed_in_stays(self):
        kept = copy.deepcopy(CALLS)
        for tell in [deep_of, size_of, calls_of, places_of]:
            self.assertEqual(tell(CALLS), tell(kept))
        self.assertEqual(CALLS, kept)


if __name__ == "__main__":
    unittest.main()
