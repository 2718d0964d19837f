"""[8]: right contents, their texts and marks; [2] of is_content."""

import copy
import itertools
import random
import unittest

from contentnames.contents import calls_in, content_in, content_text, is_content, mark_of, turned_to
from contentnames.errors import BadText
from contentnames.marks import mark_of_text
from samples import (MARK, NUM, bodies_in, content_of, named_places, numbered_from, reordered, ring_calling,
                     same_pairs, some_bodies, things, ways, with_a_list, with_a_sign_changed)

EVEN = "1:(if a (@1 (less a 1)) 1);1:(if a (@0 (less a 1)) 0)"
ODD = "1:(if a (@1 (less a 1)) 0);1:(if a (@0 (less a 1)) 1)"
# Of each the text of a right content.
RIGHT = [
    "0:1",
    "0:0",
    "4:1000002",
    "1:a",
    "4:(if a (add b c) d)",
    "0:(#0k3f9a)",
    "2:(#0k3f9a (#zzzzzz a) (#000000) b)",
    "0:(@0)",
    "1:(@0 (@0 (@0 a)))",
    "1:(if a (times a (@0 (less a 1))) 1)",
    EVEN,
    ODD,
    "0:(@1);0:(add 1 (@0))",
    "1:(@1 a a);2:(@0 (add a b))",
    "0:(add (@1) (@2));0:(add 1 (@0));0:(add 2 (@0))",
    "0:(add (@1) (@2));0:(@2);0:(add (@0) (@1))",
    "1:(@1 (@2 (@0 a)));1:(@0 1);1:(@0 2)",
    "0:(@1);0:(add (@2) (@0));0:(less (@3) (@3));0:(times (@2) (@0))",
    "4:(@1 a b c);3:(@2 a b);2:(@3 a);1:(@4);0:(@0 1 2 3 4)",
]


def a_right_content(chance, many):
    """Some right content of at most so many bodies."""
    while True:
        bodies = some_bodies(chance, many, [MARK, "000000", "zzzzzz"])
        content = numbered_from(bodies, 0)
        if is_right(content):
            return content


def is_right(content):
    """Whether bodies that fit are a right content, by going through all pairs."""
    places = range(len(content))
    if content != numbered_from(content, 0) or len(same_pairs(content)) != len(content):
        return False
    led = ways(content)
    return all(place == 0 or ((0, place) in led and (place, 0) in led) for place in places)


class TestIsContent(unittest.TestCase):
    def yes(self, thing):
        self.assertIs(is_content(thing), True, thing)

    def no(self, thing):
        self.assertIs(is_content(thing), False, thing)

    def not_so(self, text):
        self.no(content_of(text))

    def test_right_ones(self):
        for text in RIGHT:
            self.yes(content_of(text))

    def test_of_one_to_twelve_bodies(self):
        for many in range(1, 13):
            self.yes(tuple(ring_calling(range(many))))
            # Each calls the one that it's met from, and the first of all.
            tree = [(0, ("add", ("num", 0), ("ring", 1, ())))] if many > 1 else [(0, NUM)]
            tree += [(0, ("add", ("ring", place - 1, ()), ("ring", min(place + 1, many - 1), ())))
                     for place in range(1, many)]
            self.yes(tuple(tree))

    def test_none_and_thirteen(self):
        self.no(())
        self.no(tuple(ring_calling(range(13))))
        self.no(tuple(ring_calling(range(12))) + ((0, ("ring", 0, ())),))
        self.no(((0, NUM),) * 13)
        self.no(tuple((0, ("add", ("num", place), ("ring", (place + 1) % 12, ()))) for place in range(13)))

    def test_how_many_arguments(self):
        for many in range(5):
            self.yes(((many, NUM),))
        for many in [-1, 5, 6, 100, True, False, None, "1", "", (), (1,), [1], ("num", 1)]:
            self.no(((many, NUM),))

    def test_an_argument_that_is_not_below_how_many_there_are(self):
        for many in range(5):
            for arg in range(4):
                for term in [("arg", arg), ("add", NUM, ("arg", arg)), ("if", NUM, NUM, ("less", ("arg", arg), NUM)),
                             ("call", MARK, (("call", MARK, (("arg", arg),)),))]:
                    self.assertIs(is_content(((many, term),)), arg < many)
        self.yes(content_of("1:(@1 a a);2:(@0 (add a b))"))
        self.not_so("1:(@1 a b);2:(@0 (add a b))")
        self.not_so("1:(@1 a a);2:(@0 (add a c))")

    def test_a_ring_call_that_hands_other_parts(self):
        for many in range(5):
            for handed in range(5):
                self.assertIs(is_content(((many, ("ring", 0, (NUM,) * handed)),)), many == handed)
        self.yes(content_of("1:(@1 a a);2:(@0 (add a b))"))
        self.not_so("1:(@1 a);2:(@0 (add a b))")
        self.not_so("1:(@1 a a);2:(@0 a b)")
        self.not_so("1:(@1 a a);2:(@0)")
        self.not_so("1:(@1 a (@1 a));2:(@0 (add a b))")

    def test_a_ring_call_of_no_place_that_there_is(self):
        self.not_so("0:(@1)")
        self.not_so("0:(add (@0) (@11))")
        self.not_so("0:(@1);0:(add (@0) (@2))")
        self.not_so("1:(@1 (@2 a));1:(@0 1)")
        for place in [-1, -2, 1, 2, 11, 12, 13, True, False, None, "0", (0,), [0]]:
            self.no(((0, ("ring", place, ())),))
            self.no(((0, ("add", ("ring", 0, ()), ("ring", place, ()))),))
        for place in [-2, -1, 2, 3]:
            self.no(((0, ("ring", 1, ())), (0, ("add", ("ring", 0, ()), ("ring", place, ())))))

    def test_two_that_say_the_same(self):
        self.not_so("0:(@1);0:(@0)")
        self.not_so("1:(if a (@1 (less a 1)) 0);1:(if a (@0 (less a 1)) 0)")
        self.not_so("0:(add (@1) (@2));0:(@0);0:(@0)")
        for numbers in [[1, 1], [1, 2, 1, 2], [1, 1, 1], [1, 2, 3, 1, 2, 3], [5] * 12, [1, 2, 3, 4, 5, 6] * 2]:
            self.no(tuple(ring_calling(numbers)))
        self.yes(tuple(ring_calling([1, 2, 1, 2, 1])))
        self.yes(tuple(ring_calling([5] * 11 + [6])))

    def test_a_body_that_place_0_does_not_lead_to(self):
        self.not_so("0:1;0:2")
        self.not_so("0:1;0:(@0)")
        self.not_so("0:(@0);0:(add 1 (@1))")
        self.not_so("0:(add (@1) 1);0:(add (@0) 2);0:(add (@0) (@1))")

    def test_one_from_which_place_0_is_not_come_to(self):
        self.not_so("0:(@1);0:1")
        self.not_so("0:(@1);0:(add 1 (@1))")
        self.not_so("0:(add (@1) (@2));0:(@0);0:7")
        self.not_so("0:(add (@1) (@2));0:(@0);0:(add 1 (@2))")
        self.not_so("0:(add 1 (@1));0:(add 2 (@2));0:(add 3 (@1))")

    def test_places_numbered_otherwise(self):
        self.yes(content_of("0:(add 1 (@1));0:(add 2 (@2));0:(add 3 (@0))"))
        self.not_so("0:(add 1 (@2));0:(add 3 (@0));0:(add 2 (@1))")
        self.yes(content_of("0:(add (@1) (@2));0:(add 1 (@0));0:(add 2 (@0))"))
        self.not_so("0:(add (@2) (@1));0:(add 1 (@0));0:(add 2 (@0))")

    def test_a_queue_goes_through_the_front_ahead_of_the_next(self):
        # As a queue meets them: those of place 0, then those of place 1.
        self.yes(content_of("0:(add (@1) (@2));0:(add 1 (@3));0:(add 2 (@0));0:(add 3 (@0))"))
        # As one would meet them who follows each call at once.
        self.not_so("0:(add (@1) (@3));0:(add 1 (@2));0:(add 3 (@0));0:(add 2 (@0))")

    def test_a_call_is_met_ahead_of_those_in_its_parts(self):
        self.yes(content_of("1:(@1 (@2 (@3 a)));1:(@0 1);1:(@0 2);1:(@0 3)"))
        self.not_so("1:(@3 (@2 (@1 a)));1:(@0 1);1:(@0 2);1:(@0 3)")
        self.yes(content_of("1:(add (@1 (@2 a)) (@3 a));1:(@0 1);1:(@0 2);1:(@0 3)"))
        self.not_so("1:(add (@1 (@3 a)) (@2 a));1:(@0 1);1:(@0 2);1:(@0 3)")

    def test_just_one_order_of_places_is_right(self):
        for text in RIGHT:
            content = content_of(text)
            if 2 < len(content) < 6:
                orders = [[0, *order] for order in itertools.permutations(range(1, len(content)))]
                others = [tuple(reordered(content, order)) for order in orders]
                self.assertEqual([other for other in others if is_content(other)], [content])

    def test_a_list_in_the_place_of_a_tuple(self):
        for text in RIGHT:
            content = content_of(text)
            self.yes(content)
            for changed in with_a_list(content):
                self.no(changed)
            self.no([list(body) for body in content])

    def test_terms_that_are_none(self):
        for thing in things():
            self.no(((1, thing),))
            self.no(((1, ("add", NUM, thing)),))
            self.no(((1, ("ring", 0, (thing,))),))
            self.no(((0, ("add", ("ring", 1, ()), NUM)), (0, ("add", thing, ("ring", 0, ())))))

    def test_a_term_that_is_too_deep(self):
        term = ("arg", 0)
        for deep in range(1, 11):
            self.assertIs(is_content(((1, term),)), deep <= 8)
            term = ("add", term, NUM)

    def test_things_of_any_kind(self):
        right = content_of(EVEN)
        for thing in things() + [EVEN, "0:1", NUM, (NUM,), (0, NUM), ((0,),), ((0, NUM, NUM),), ((0, NUM), 1),
                                 ((0, NUM), None), ((0, NUM), ()), (((0, NUM),),), [right], (right,), right + (0,),
                                 right[0], {}, {0: NUM}, 1.0, b"0:1", object()]:
            self.no(thing)
        self.no(((1.0, NUM),))

    def test_a_body_with_more_or_fewer_things(self):
        for body in [(), (0,), (0, NUM, 0), (NUM,), (NUM, 0), (NUM, NUM), (0, NUM, NUM), ((0, NUM),), 0, None, "0:1"]:
            self.no((body,))
            self.no(((0, ("ring", 1, ())), body))

    def test_some_bodies_as_going_through_all_pairs_tells(self):
        chance = random.Random(8)
        found = {True: 0, False: 0}
        for _ in range(1500):
            bodies = some_bodies(chance, chance.randint(1, 5), [MARK], 0.7)
            if chance.random() < 0.5:
                bodies = numbered_from(bodies, 0)
            content = tuple(bodies)
            self.assertIs(is_content(content), is_right(content), content)
            found[is_content(content) and len(content) > 1] += 1
        self.assertTrue(min(found.values()) > 50, found)

    def test_what_is_handed_in_stays(self):
        thing = [[1, ["num", 1]], [0, ["ring", 0, []]]]
        kept = copy.deepcopy(thing)
        is_content(thing)
        self.assertEqual(thing, kept)


class TestContentText(unittest.TestCase):
    def test_the_text_that_the_document_tells(self):
        self.assertEqual(content_text(((0, ("num", 1)),)), "0:1")

    def test_texts(self):
        self.assertEqual(content_text(((4, ("arg", 3)),)), "4:d")
        self.assertEqual(content_text(((2, ("add", ("arg", 0), ("call", MARK, (("arg", 1),)))),)),
                         "2:(add a (#0k3f9a b))")
        less = ("less", ("arg", 0), ("num", 1))
        self.assertEqual(content_text(((1, ("if", ("arg", 0), ("ring", 1, (less,)), ("num", 1))),
                                       (1, ("if", ("arg", 0), ("ring", 0, (less,)), ("num", 0))))), EVEN)
        for text in RIGHT:
            self.assertEqual(content_text(content_of(text)), text)

    def test_twelve_bodies(self):
        text = ";".join(f"0:(add {place} (@{(place + 1) % 12}))" for place in range(12))
        self.assertEqual(content_text(tuple(ring_calling(range(12)))), text)


class TestContentIn(unittest.TestCase):
    def bad(self, text):
        with self.assertRaises(BadText) as caught:
            content_in(text)
        self.assertEqual(caught.exception.what, text)

    def test_there_and_back(self):
        for text in RIGHT:
            self.assertEqual(content_in(text), content_of(text))
            self.assertIs(is_content(content_in(text)), True)
        for many in range(1, 13):
            content = tuple(ring_calling(range(many)))
            self.assertEqual(content_in(content_text(content)), content)

    def test_some_contents_there_and_back(self):
        chance = random.Random(9)
        for _ in range(150):
            content = a_right_content(chance, chance.randint(1, 4))
            self.assertEqual(content_in(content_text(content)), content)

    def test_a_text_of_over_2000_signs_that_was_told(self):
        term = ("num", 1000002)
        for _ in range(5):
            term = ("if", ("num", 1000002), ("times", ("num", 1000002), ("num", 1000002)), term)
        content = tuple((0, ("if", ("ring", (place + 1) % 12, ()), ("num", place), term)) for place in range(12))
        text = content_text(content)
        self.assertTrue(len(text) > 2000)
        self.assertEqual(content_in(text), content)

    def test_the_empty_text_and_signs_alone(self):
        for text in ["", " ", ":", ";", "0", "0:", ":1", "1", "a", "(@0)", "0;1", ";;", "::", "0::1", ":0:1", "0:0:1",
                     "\n", "\ud800", "\U0001f600", "0:\ud800", "\ud800:1", "0:1\x00", "%", "None", "()", "((0, NUM),)"]:
            self.bad(text)

    def test_how_many(self):
        for many in range(5):
            self.assertEqual(content_in(str(many) + ":1"), ((many, NUM),))
        for many in ["", "00", "01", "04", "5", "6", "10", "44", "-0", "-1", "+1", "a", "x", "0x1", "1.0", "1_0",
                     "\u00b2", "\u0661", "\uff11", "True", "9" * 2000, "1" * 5000]:
            self.bad(many + ":1")

    def test_noughts_ahead(self):
        for text in ["00:1", "0:01", "0:00", "01:a", "0:(@00)", "1:(@00 a)", "0:(@01);0:(add 1 (@0))", "0:(add 01 1)"]:
            self.bad(text)

    def test_blanks(self):
        for text in [" 0:1", "0 :1", "0: 1", "0:1 ", "0:(add  1 2)", "0:(add 1 2) ", "0:( add 1 2)", "0:(add 1 2 )",
                     "0:(@1); 0:(add 1 (@0))", "0:(@1) ;0:(add 1 (@0))", "0:(@1);0:(add 1 (@0))\n", "0:\t1"]:
            self.bad(text)

    def test_signs_between_bodies_more_or_fewer(self):
        self.assertEqual(len(content_in("0:(@1);0:(add 1 (@0))")), 2)
        for text in ["0:(@1);;0:(add 1 (@0))", ";0:(@1);0:(add 1 (@0))", "0:(@1);0:(add 1 (@0));",
                     "0:(@1)0:(add 1 (@0))", "0:(@1):0:(add 1 (@0))", "0:(@1);0(add 1 (@0))", "0(@1);0:(add 1 (@0))",
                     "0:(@1);(add 1 (@0))", "0:(@1);:(add 1 (@0))", "0::(@1);0:(add 1 (@0))", "0:(@1);0:", "0:(@1);0",
                     "0;(@1);0;(add 1 (@0))", "0:1;", ";0:1", "0:1;0:1", "0:1:", "0:(add;1 2)", "0:(add 1:2)",
                     "0:(#0k3f9;)", "0:(@0:)"]:
            self.bad(text)

    def test_right_texts_of_contents_that_are_not(self):
        for text in ["0:a", "1:b", "3:d", "0:(@1)", "0:(@0 1)", "1:(@0)", "0:(@1);0:(@0)", "0:1;0:2", "0:1;0:(@0)",
                     "0:(@1);0:1", "0:(add 1 (@2));0:(add 3 (@0));0:(add 2 (@1))", "0:(add (@2) (@1));0:(@0);0:7",
                     "0:(add (@2) (@1));0:(add 1 (@0));0:(add 2 (@0))", "0:(add 1 (@1));0:(add 2 (@2));0:(add 3 (@1))"]:
            self.assertEqual(content_text(content_of(text)), text)
            self.bad(text)
        self.bad(content_text(tuple(ring_calling(range(13)))))
        self.bad(content_text(tuple(ring_calling([1, 2, 1, 2]))))
        self.bad(";".join(["0:1"] * 13))

    def test_terms_that_are_none(self):
        for text in ["0:1000003", "4:e", "4:(add a)", "4:(add a b c)", "0:(#0k3f9)", "0:(@12)", "0:(sub 1 2)", "0:add",
                     "0:(name)", "1:((@0 a))", "0:(@0", "0:@0", "0:(@0))", "1:" + "(add a " * 8 + "a" + ")" * 8]:
            self.bad(text)

    def test_long_texts_and_brackets_to_any_depth(self):
        for text in ["(" * 2000, "0:" + "(" * 1998, "0:" + "(add " * 399, ";" * 2000, ":" * 2000, "0:1;" * 500,
                     "0:1" + ";0:1" * 499, "1:" + "(@0 " * 300 + "a" + ")" * 300, "0:" + "(" * 900 + ")" * 900,
                     "0" * 1998 + ":1", "0:" + "1" * 1998, " " * 2000]:
            self.bad(text)

    def test_a_sign_more_fewer_or_another(self):
        changed = with_a_sign_changed([text for text in RIGHT if len(text) < 60], " ();:@#01a\n")
        told = 0
        for text in changed:
            try:
                content = content_in(text)
            except BadText as refusal:
                self.assertEqual(refusal.what, text)
                self.assertFalse(self.is_text_of_a_right_content(text), text)
            else:
                told += 1
                self.assertIs(is_content(content), True)
                self.assertEqual(content_text(content), text)
        self.assertTrue(100 < told < len(changed) - 100)

    def is_text_of_a_right_content(self, text):
        """Whether the text is one, the terms in it being read by term_in."""
        try:
            bodies = bodies_in(text)
        except ValueError:
            return False
        if content_text(bodies) != text or not all(0 <= many <= 4 for many, _ in bodies):
            return False
        return is_content(tuple(bodies))

    def test_every_short_text(self):
        whole = {"0:0", "0:1", "1:0", "1:1", "1:a"}
        for long in range(4):
            for signs in itertools.product("01a:; (", repeat=long):
                text = "".join(signs)
                if text in whole:
                    self.assertEqual(content_text(content_in(text)), text)
                else:
                    self.bad(text)

    def test_a_refusal_comes_of_the_whole_text(self):
        try:
            content_in("0:(@1);0:(add 1 x)")
        except BadText as refusal:
            self.assertEqual(refusal.what, "0:(@1);0:(add 1 x)")


class TestMarkOf(unittest.TestCase):
    def test_the_mark_that_the_document_tells(self):
        self.assertEqual(mark_of(content_of("0:1")), "09ds21")

    def test_the_mark_of_the_text(self):
        for text in RIGHT:
            self.assertEqual(mark_of(content_of(text)), mark_of_text(text))
        self.assertEqual(len({mark_of(content_of(text)) for text in RIGHT}), len(RIGHT))

    def test_each_of_a_ring_has_its_own(self):
        self.assertNotEqual(mark_of(content_of(EVEN)), mark_of(content_of(ODD)))


class TestTurnedTo(unittest.TestCase):
    def test_evens_and_odds(self):
        even, odd = content_of(EVEN), content_of(ODD)
        self.assertEqual(turned_to(even, 0), even)
        self.assertEqual(turned_to(even, 1), odd)
        self.assertEqual(turned_to(odd, 1), even)

    def test_of_one_body(self):
        for text in RIGHT[:10]:
            self.assertEqual(turned_to(content_of(text), 0), content_of(text))

    def test_numbered_anew(self):
        content = content_of("0:(add (@1) (@2));0:(add 1 (@0));0:(add 2 (@0))")
        self.assertEqual(content_text(turned_to(content, 1)), "0:(add 1 (@1));0:(add (@0) (@2));0:(add 2 (@1))")
        self.assertEqual(content_text(turned_to(content, 2)), "0:(add 2 (@1));0:(add (@2) (@0));0:(add 1 (@1))")
        content = content_of("1:(@1 (@2 (@0 a)));1:(@0 1);1:(@0 (#0k3f9a (@1 a)))")
        self.assertEqual(content_text(turned_to(content, 2)), "1:(@1 (#0k3f9a (@2 a)));1:(@2 (@0 (@1 a)));1:(@1 1)")

    def test_each_place_and_back(self):
        chance = random.Random(10)
        contents = [content_of(text) for text in RIGHT] + [tuple(ring_calling(range(12)))]
        contents += [a_right_content(chance, chance.randint(2, 5)) for _ in range(100)]
        for content in contents:
            for place in range(len(content)):
                turned = turned_to(content, place)
                self.assertIs(is_content(turned), True)
                self.assertIs(type(turned), tuple)
                self.assertEqual(turned, numbered_from(content, place))
                self.assertEqual(turned[0][0], content[place][0])
                self.assertIn(content, [turned_to(turned, back) for back in range(len(turned))])

    def test_no_two_places_tell_the_same(self):
        for text in RIGHT:
            content = content_of(text)
            self.assertEqual(len({turned_to(content, place) for place in range(len(content))}), len(content))

    def test_ring_calls_stand_at_their_spots(self):
        content = content_of(RIGHT[-1])
        self.assertEqual([named_places(term) for _, term in turned_to(content, 3)], [[1], [2], [3], [4], [0]])
        self.assertEqual([many for many, _ in turned_to(content, 3)], [1, 0, 4, 3, 2])


class TestCallsIn(unittest.TestCase):
    def test_none(self):
        for text in ["0:1", "0:(@0)", EVEN]:
            self.assertEqual(calls_in(content_of(text)), [])

    def test_rising_with_nothing_twice(self):
        self.assertEqual(calls_in(content_of("2:(#0k3f9a (#zzzzzz a) (#000000) (#0k3f9a b))")),
                         ["000000", "0k3f9a", "zzzzzz"])
        content = content_of("0:(add (#zzzzzz) (@1));0:(add (#0k3f9a) (@2));0:(add (#a00000) (@0))")
        self.assertEqual(calls_in(content), ["0k3f9a", "a00000", "zzzzzz"])
        self.assertEqual(calls_in(turned_to(content, 1)), ["0k3f9a", "a00000", "zzzzzz"])

    def test_of_every_body_each_mark_once(self):
        content = content_of("0:(add (#bbbbbb) (@1));0:(less (#aaaaaa (#bbbbbb)) (@0))")
        self.assertEqual(calls_in(content), ["aaaaaa", "bbbbbb"])

    def test_what_is_told_is_the_askers_own(self):
        content = content_of("0:(add (#bbbbbb) (#aaaaaa))")
        told = calls_in(content)
        told.append("told")
        told[0] = "changed"
        self.assertEqual(calls_in(content), ["aaaaaa", "bbbbbb"])


if __name__ == "__main__":
    unittest.main()
