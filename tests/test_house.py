"""[10]: a house of contents; [1] (a) and (b), as far as it keeps them."""

import copy
import itertools
import random
import unittest

from contentnames.contents import calls_in, content_text, is_content, mark_of, turned_to
from contentnames.errors import BadCall, BadContent, NoMark, Taken
from contentnames.house import House
from contentnames.rings import contents_of
from contentnames.terms import calls_of, places_of
from samples import NUM, bodies_in, content_of, forged, ring_calling, some_bodies, things, with_a_list

EVEN = "1:(if a (@1 (less a 1)) 1);1:(if a (@0 (less a 1)) 0)"
ODD = "1:(if a (@1 (less a 1)) 0);1:(if a (@0 (less a 1)) 1)"
ONE = "09ds21"
# Texts that are no mark of anything: too short, too long, with other signs, or just not there.
NOWHERE = ["", "0", "09ds2", "09ds211", "09ds20", "000000", "zzzzzz", "09DS21", "#09ds21", " 09ds21", "0:1", "one",
           "\n", "\u0661", "\ud800", "\U0001f600", "x" * 2000]
# Rings of which two places have one mark, and which places those are: found by looking for them.
ALIKE_1_2 = [158301, 100455, 125678]
ALIKE_1_3 = [264729, 112458, 125678, 126789]
ALIKE_0_2 = [295698, 106392, 125678]


def mark(text):
    """The mark of the content of this text."""
    return mark_of(content_of(text))


def house_of(*texts):
    """A house with contents of these texts."""
    house = House()
    for text in texts:
        house.put(content_of(text))
    return house


def told_by(house):
    """All that a house tells."""
    marks = house.marks()
    return (len(house), marks, [house.content(mark) for mark in marks], [house.ring(mark) for mark in marks],
            [house.calls(mark) for mark in marks], [house.called_by(mark) for mark in marks],
            [house.all_calls(mark) for mark in marks], [house.has(mark) for mark in marks + NOWHERE])


def marks_of_ring(content):
    return [mark_of(turned_to(content, place)) for place in range(len(content))]


class TestPut(unittest.TestCase):
    def test_a_new_house_is_empty(self):
        house = House()
        self.assertEqual(told_by(house), (0, [], [], [], [], [], [], [False] * len(NOWHERE)))

    def test_one(self):
        house = House()
        self.assertEqual(house.put(content_of("0:1")), ONE)
        self.assertEqual(house.marks(), [ONE])
        self.assertEqual(house.content(ONE), content_of("0:1"))
        self.assertIs(house.has(ONE), True)

    def test_one_that_calls_itself(self):
        house = House()
        told = house.put(content_of("1:(@0 a)"))
        self.assertEqual(told, mark("1:(@0 a)"))
        self.assertEqual(told_by(house)[:3], (1, [told], [content_of("1:(@0 a)")]))
        self.assertEqual(told_by(house)[3:7], ([[told]], [[told]], [[told]], [[told]]))

    def test_a_ring_from_any_place(self):
        even, odd = mark(EVEN), mark(ODD)
        for text, told in [(EVEN, even), (ODD, odd)]:
            house = House()
            self.assertEqual(house.put(content_of(text)), told)
            self.assertEqual(house.marks(), sorted([even, odd]))
            self.assertEqual(house.content(even), content_of(EVEN))
            self.assertEqual(house.content(odd), content_of(ODD))
        content = tuple(ring_calling(range(12)))
        houses = []
        for place in range(12):
            house = House()
            self.assertEqual(house.put(turned_to(content, place)), marks_of_ring(content)[place])
            self.assertEqual(len(house), 12)
            houses.append(told_by(house))
        self.assertEqual(houses, [houses[0]] * 12)

    def test_once_more(self):
        house = house_of("0:1", EVEN, "0:(#09ds21)")
        kept = told_by(house)
        for text in ["0:1", EVEN, ODD, "0:(#09ds21)"]:
            self.assertEqual(house.put(content_of(text)), mark(text))
            self.assertEqual(told_by(house), kept)

    def test_what_a_mark_stands_for_stays(self):
        chance = random.Random(17)
        house = House()
        stood = {}
        for _ in range(60):
            marks = [other for other in house.marks() if house.content(other)[0][0] == 0]
            for content in contents_of(some_bodies(chance, 4, marks, 0.4)):
                if all(house.has(called) for called in calls_in(content)):
                    stood[house.put(content)] = content
            for known, content in stood.items():
                self.assertEqual(house.content(known), content)

    def test_contents_of_bodies_in_their_order(self):
        bodies = bodies_in("0:(add (@1) (@3));0:(add (@0) (@2));0:(less (@4) (@2));0:(@4);0:7")
        told = contents_of(bodies)
        house = House()
        for place in [4, 3, 2, 1, 0]:
            self.assertEqual(house.put(told[place]), mark_of(told[place]))
        self.assertEqual(house.marks(), sorted({mark_of(content) for content in told}))

    def test_three_hundred(self):
        house = House()
        for number in range(1, 260):
            house.put(((0, ("num", number)),))
        last = house.put(content_of("0:(add (#09ds21) 3)"))
        for number in range(40):
            last = house.put(((0, ("add", ("call", last, ()), ("num", number))),))
        self.assertEqual(len(house), 300)
        self.assertEqual(len(house.marks()), 300)
        self.assertEqual(len(house.all_calls(last)), 41)
        self.assertEqual(house.called_by(ONE), [mark("0:(add (#09ds21) 3)")])
        self.assertEqual(told_by(house.like()), told_by(house))

    def test_the_content_that_is_handed_in_stays(self):
        content = content_of(EVEN)
        kept = copy.deepcopy(content)
        house_of("0:1").put(content)
        self.assertEqual(content, kept)


class TestRefusals(unittest.TestCase):
    def refused(self, house, content, refusal, what):
        kept, like = told_by(house), house.like()
        for _ in range(2):
            with self.assertRaises(refusal) as caught:
                house.put(content)
            self.assertIs(type(caught.exception), refusal)
            self.assertEqual(caught.exception.what, what)
            self.assertIs(type(caught.exception.what), type(what))
            self.assertEqual(told_by(house), kept)
            self.assertEqual(house, like)

    def test_bad_content_of_any_thing(self):
        house = house_of("0:1", EVEN)
        for thing in things() + ["0:1", ONE, EVEN, NUM, (0, NUM), [(0, NUM)], ([0, NUM],), content_of("0:1;0:1")]:
            self.refused(house, thing, BadContent, thing)
            self.refused(House(), thing, BadContent, thing)
        for changed in with_a_list(content_of(EVEN)):
            self.refused(house, changed, BadContent, changed)

    def test_bad_content_of_each_clause(self):
        for text in ["0:a", "0:(@1)", "0:(@0 1)", "0:(@1);0:(@0)", "0:1;0:2", "0:(@1);0:1", "0:1;0:(@0)",
                     "0:(add 1 (@2));0:(add 3 (@0));0:(add 2 (@1))"]:
            self.refused(house_of("0:1"), content_of(text), BadContent, content_of(text))
        for content in [tuple(ring_calling(range(13))), ((True, NUM),), ((0, ("num", True)),)]:
            self.refused(house_of("0:1"), content, BadContent, content)

    def test_no_mark_of_the_least_that_is_not_there(self):
        house = house_of("0:1")
        self.refused(house, content_of("0:(#0k3f9a)"), NoMark, "0k3f9a")
        self.refused(house, content_of("0:(add (#zzzzzz) (#0k3f9a))"), NoMark, "0k3f9a")
        self.refused(house, content_of("0:(#zzzzzz (#aaaaaa (#000009) (#00000a)))"), NoMark, "000009")
        # The least that isn't there, not the least of all.
        self.refused(house, content_of("0:(add (#zzzzzz) (add (#09ds21) (#0k3f9a)))"), NoMark, "0k3f9a")

    def test_no_mark_wherever_in_the_ring(self):
        self.refused(house_of("0:1"), content_of("0:(add (#zzzzzz) (@1));0:(add (#aaaaaa) (@0))"), NoMark, "aaaaaa")
        self.refused(House(), content_of("0:(add 1 (@1));0:(add (#09ds21) (@0))"), NoMark, ONE)

    def test_a_mark_of_its_own_ring_is_not_there(self):
        even = mark(EVEN)
        self.refused(House(), content_of("1:(add (@1 a) (#{} a));1:(add (@0 a) 1)".format(even)), NoMark, even)

    def test_bad_call_of_the_least_mark_called_so(self):
        house = house_of("0:1", "1:a", "2:(add a b)", EVEN)
        zero, one, two = ONE, mark("1:a"), mark("2:(add a b)")
        self.refused(house, content_of(f"0:(#{zero} 1)"), BadCall, zero)
        self.refused(house, content_of(f"0:(#{one})"), BadCall, one)
        self.refused(house, content_of(f"0:(#{one} 1 2)"), BadCall, one)
        self.refused(house, content_of(f"4:(#{two} a b c d)"), BadCall, two)
        self.refused(house, content_of(f"0:(#{mark(ODD)})"), BadCall, mark(ODD))
        least = min(zero, one, two)
        self.refused(house, content_of(f"0:(add (#{two}) (add (#{one}) (#{zero} 1)))"), BadCall, least)
        self.refused(house, content_of(f"0:(add (#{zero} 1) (add (#{one}) (#{two})))"), BadCall, least)
        # The least of those called wrongly, not the least of all.
        rest = sorted([zero, one, two])[1:]
        rightly = {zero: f"(#{zero})", one: f"(#{one} 1)", two: f"(#{two} 1 2)"}
        self.refused(house, content_of("0:(add {0} (add (#{2} 1 2 3) (#{1} 1 2 3)))".format(rightly[least], *rest)),
                     BadCall, rest[0])

    def test_bad_call_where_one_of_several_calls_is_wrong(self):
        house = house_of("0:1", "1:a")
        one = mark("1:a")
        for text in [f"0:(add (#{one} 1) (#{one}))", f"0:(add (#{one}) (#{one} 1))", f"0:(#{one} (#{one} 1 2))",
                     f"0:(#{one} (#{one}) 2)", f"0:(add (#{one} 1) (@1));0:(add (#{one} 1 2) (@0))",
                     f"0:(add (#09ds21) (@1));0:(if (#09ds21) (#{one}) (@0))"]:
            self.refused(house, content_of(text), BadCall, one)
        self.assertEqual(house.put(content_of(f"0:(add (#{one} 1) (#{one} (#{one} 1)))")),
                         mark(f"0:(add (#{one} 1) (#{one} (#{one} 1)))"))

    def test_by_the_definitions_own_arguments(self):
        house = house_of("1:(@1 a a);2:(@0 (add a b))")
        one, two = marks_of_ring(content_of("1:(@1 a a);2:(@0 (add a b))"))
        self.refused(house, content_of(f"0:(#{one} 1 2)"), BadCall, one)
        self.refused(house, content_of(f"0:(#{two} 1)"), BadCall, two)
        house.put(content_of(f"0:(add (#{one} 1) (#{two} 1 2))"))
        self.assertEqual(len(house), 3)

    def test_taken_by_one_that_is_there(self):
        house = house_of("0:1")
        other = forged(ONE)
        self.assertEqual(mark_of(other), ONE)
        self.refused(house, other, Taken, ONE)
        self.assertEqual(house.content(ONE), content_of("0:1"))
        self.assertEqual(House().put(other), ONE)
        house = House()
        house.put(other)
        self.refused(house, content_of("0:1"), Taken, ONE)
        self.assertEqual(house.put(other), ONE)

    def test_taken_at_another_place_than_the_definition(self):
        odd = forged(mark(ODD))
        house = House()
        house.put(odd)
        self.refused(house, content_of(EVEN), Taken, mark(ODD))
        self.refused(house, content_of(ODD), Taken, mark(ODD))
        self.assertEqual(len(house), 1)

    def test_taken_by_one_of_a_ring_that_is_there(self):
        house = house_of(EVEN)
        self.refused(house, forged(mark(ODD)), Taken, mark(ODD))
        self.refused(house, forged(mark(EVEN)), Taken, mark(EVEN))

    def test_taken_of_the_first_by_places(self):
        content = tuple(ring_calling(range(5)))
        marks = marks_of_ring(content)
        house = House()
        house.put(forged(marks[3]))
        house.put(forged(marks[1]))
        for place in range(5):
            turned = [marks[(place + step) % 5] for step in range(5)]
            first = min(turned.index(marks[1]), turned.index(marks[3]))
            self.refused(house, turned_to(content, place), Taken, turned[first])

    def test_taken_within_one_ring(self):
        one, other = forged(ONE)[0][1], forged(ONE, 1)[0][1]
        content = ((0, ("add", ("ring", 1, ()), one)), (0, ("add", ("ring", 0, ()), other)))
        marks = marks_of_ring(content)
        self.assertEqual(marks[0], marks[1])
        self.assertIs(is_content(content), True)
        self.assertNotEqual(content, turned_to(content, 1))
        self.refused(House(), content, Taken, marks[0])
        self.refused(house_of("0:1"), turned_to(content, 1), Taken, marks[0])

    def test_taken_within_one_ring_behind_the_first(self):
        for numbers, one, other in [(ALIKE_1_2, 1, 2), (ALIKE_1_3, 1, 3), (ALIKE_0_2, 0, 2)]:
            content = tuple(ring_calling(numbers))
            marks = marks_of_ring(content)
            self.assertEqual(marks[one], marks[other])
            self.assertEqual(len(set(marks)), len(marks) - 1)
            for place in range(len(content)):
                self.refused(House(), turned_to(content, place), Taken, marks[one])

    def test_taken_within_the_ring_and_by_one_that_is_there(self):
        content = tuple(ring_calling(ALIKE_1_3))
        marks = marks_of_ring(content)
        for there, first in [(0, 0), (2, 1), (1, 1)]:
            house = House()
            house.put(forged(marks[there]))
            self.refused(house, content, Taken, marks[first])
        house = House()
        house.put(forged(marks[2]))
        self.refused(house, turned_to(content, 2), Taken, marks[2])
        self.refused(house, turned_to(content, 3), Taken, marks[3])

    def test_the_order_of_refusals(self):
        one = mark("1:a")
        taken = f"0:(add (#{one} 1) (@1));0:(add 2 (@0))"
        house = house_of("1:a")
        house.put(forged(mark(taken)))
        self.refused(house, content_of(taken), Taken, mark(taken))
        wrong = f"0:(add (#{one}) (@1));0:(add 2 (@0))"
        house.put(forged(mark(wrong)))
        self.refused(house, content_of(wrong), BadCall, one)
        missing = f"0:(add (#{one}) (#zzzzzz (@1)));0:(add 2 (@0))"
        house.put(forged(mark(missing)))
        self.refused(house, content_of(missing), NoMark, "zzzzzz")
        bad = f"0:(add (#{one}) (#zzzzzz (@1)));0:(add 2 (@1))"
        self.refused(house, content_of(bad), BadContent, content_of(bad))

    def test_no_mark_ahead_of_bad_call_of_a_lesser_mark(self):
        self.refused(house_of("0:1"), content_of("0:(add (#09ds21 1) (#zzzzzz))"), NoMark, "zzzzzz")

    def test_bad_call_ahead_of_taken_within_the_ring(self):
        content = [(0, ("add", ("call", ONE, (NUM,)), term)) for _, term in ring_calling(ALIKE_0_2)]
        self.refused(house_of("0:1"), tuple(content), BadCall, ONE)

    def test_behind_a_refusal_it_goes_on(self):
        house = House()
        for thing in [0, content_of("0:(#09ds21)"), content_of("0:a"), tuple(ring_calling(ALIKE_1_2))]:
            with self.assertRaises((BadContent, NoMark, Taken)):
                house.put(thing)
        self.assertEqual(house, House())
        self.assertEqual(house.put(content_of("0:1")), ONE)
        self.assertEqual(house.marks(), [ONE])


class TestAsking(unittest.TestCase):
    def setUp(self):
        self.house = house_of("0:1", "1:a", EVEN)
        one = mark("1:a")
        self.texts = ["0:1", "1:a", EVEN, ODD]
        self.texts.append(f"0:(add (#{one} (#09ds21)) (#{mark(ODD)} (#{one} 3)))")
        self.texts.append(f"0:(times (#{mark(self.texts[4])}) (#{mark(self.texts[4])}))")
        three = f"0:(add (@1) (@2));0:(add (#{one} 1) (@0));0:(less (@2) (@0))"
        self.texts += [content_text(turned_to(content_of(three), place)) for place in range(3)]
        for text in self.texts:
            self.house.put(content_of(text))
        self.marks = [mark(text) for text in self.texts]

    def no_mark(self, tell, text):
        with self.assertRaises(NoMark) as caught:
            tell(text)
        self.assertEqual(caught.exception.what, text)

    def test_of_marks_that_are_not_there(self):
        for house in [House(), self.house]:
            for text in NOWHERE:
                for tell in [house.content, house.ring, house.calls, house.called_by, house.all_calls]:
                    self.no_mark(tell, text)
                self.assertIs(house.has(text), False)
        for tell in [House().content, House().ring, House().calls, House().called_by, House().all_calls]:
            self.no_mark(tell, ONE)

    def test_content_and_has(self):
        for text in self.texts:
            self.assertEqual(self.house.content(mark(text)), content_of(text))
            self.assertIs(type(self.house.content(mark(text))), tuple)
            self.assertIs(self.house.has(mark(text)), True)

    def test_marks_and_len(self):
        self.assertEqual(self.house.marks(), sorted(self.marks))
        self.assertEqual(len(self.house), 9)

    def test_marks_rise_in_whatever_order_they_came(self):
        for order in itertools.permutations(["0:1", "0:2", "0:3", "1:a"]):
            self.assertEqual(house_of(*order).marks(), sorted(mark(text) for text in order))

    def test_ring(self):
        even, odd = mark(EVEN), mark(ODD)
        self.assertEqual(self.house.ring(even), [even, odd])
        self.assertEqual(self.house.ring(odd), [odd, even])
        self.assertEqual(self.house.ring(ONE), [ONE])
        first, second, third = self.marks[6:]
        self.assertEqual(self.house.ring(first), [first, second, third])
        self.assertEqual(self.house.ring(second), [second, first, third])
        self.assertEqual(self.house.ring(third), [third, first, second])

    def test_ring_is_by_the_places_of_its_content(self):
        chance = random.Random(18)
        for _ in range(60):
            house = House()
            told = contents_of(some_bodies(chance, 6, [], 0.7))
            for content in told:
                if not calls_in(content):
                    house.put(content)
            for known in house.marks():
                self.assertEqual(house.ring(known), marks_of_ring(house.content(known)))

    def test_calls(self):
        one, even, odd = mark("1:a"), mark(EVEN), mark(ODD)
        first, second, third = self.marks[6:]
        self.assertEqual(self.house.calls(ONE), [])
        self.assertEqual(self.house.calls(even), [odd])
        self.assertEqual(self.house.calls(odd), [even])
        self.assertEqual(self.house.calls(self.marks[4]), sorted([one, ONE, odd]))
        self.assertEqual(self.house.calls(self.marks[5]), [self.marks[4]])
        self.assertEqual(self.house.calls(first), sorted([second, third]))
        self.assertEqual(self.house.calls(second), sorted([one, first]))
        self.assertEqual(self.house.calls(third), sorted([third, first]))

    def test_called_by(self):
        one, even, odd = mark("1:a"), mark(EVEN), mark(ODD)
        first, second, third = self.marks[6:]
        self.assertEqual(self.house.called_by(ONE), [self.marks[4]])
        self.assertEqual(self.house.called_by(one), sorted([self.marks[4], second]))
        self.assertEqual(self.house.called_by(even), [odd])
        self.assertEqual(self.house.called_by(odd), sorted([even, self.marks[4]]))
        self.assertEqual(self.house.called_by(self.marks[4]), [self.marks[5]])
        self.assertEqual(self.house.called_by(self.marks[5]), [])
        self.assertEqual(self.house.called_by(first), sorted([second, third]))
        self.assertEqual(self.house.called_by(third), sorted([first, third]))

    def test_all_calls(self):
        one, even, odd = mark("1:a"), mark(EVEN), mark(ODD)
        ring = self.marks[6:]
        self.assertEqual(self.house.all_calls(ONE), [])
        self.assertEqual(self.house.all_calls(even), sorted([even, odd]))
        self.assertEqual(self.house.all_calls(self.marks[4]), sorted([ONE, one, even, odd]))
        self.assertEqual(self.house.all_calls(self.marks[5]), sorted([ONE, one, even, odd, self.marks[4]]))
        for known in ring:
            self.assertEqual(self.house.all_calls(known), sorted([one] + ring))

    def test_called_by_changes_with_what_is_put(self):
        house = house_of("0:1")
        self.assertEqual(house.called_by(ONE), [])
        told = house.put(content_of("0:(#09ds21)"))
        self.assertEqual(house.called_by(ONE), [told])

    def test_some_houses_as_their_contents_tell(self):
        chance = random.Random(19)
        for _ in range(25):
            house = House()
            for _ in range(5):
                marks = [known for known in house.marks() if house.content(known)[0][0] == 0]
                bodies = some_bodies(chance, 4, marks[:6], 0.5)
                left = contents_of(bodies)
                while left:
                    content = next(other for other in left if all(house.has(called) for called in calls_in(other)))
                    left.remove(content)
                    self.assertEqual(house.put(content), mark_of(content))
            called = {}
            for known in house.marks():
                content = house.content(known)
                own = content[0][1]
                named = {mark_of(turned_to(content, place)) for place in places_of(own)}
                called[known] = sorted(named | set(calls_of(own)))
                self.assertEqual(house.calls(known), called[known])
            led = {(one, other) for one in called for other in called[one]}
            while True:
                more = {(one, last) for one, middle in led for other, last in led if middle == other} - led
                if not more:
                    break
                led |= more
            for known in house.marks():
                self.assertEqual(house.called_by(known), sorted(one for one in called if known in called[one]))
                self.assertEqual(house.all_calls(known), sorted(last for one, last in led if one == known))

    def test_asking_again_tells_the_same(self):
        self.assertEqual(told_by(self.house), told_by(self.house))

    def test_told_lists_that_are_changed(self):
        kept = told_by(self.house)
        self.house.marks().clear()
        for known in self.marks:
            for tell in [self.house.ring, self.house.calls, self.house.called_by, self.house.all_calls]:
                told = tell(known)
                self.assertIs(type(told), list)
                told.append("told")
                told.reverse()
                told[0] = "changed"
        self.assertEqual(told_by(self.house), kept)


class TestEqualAndLike(unittest.TestCase):
    def test_houses_of_the_same_contents(self):
        self.assertTrue(House() == House())
        self.assertIs(House() == House(), True)
        self.assertFalse(House() != House())
        one = house_of("0:1", EVEN, "0:(#09ds21)")
        for order in [["0:1", ODD, "0:(#09ds21)"], ["0:1", "0:(#09ds21)", EVEN],
                      [EVEN, "0:1", "0:1", ODD, "0:(#09ds21)"]]:
            self.assertIs(one == house_of(*order), True)
            self.assertIs(one != house_of(*order), False)
        self.assertIs(one == one, True)

    def test_houses_of_other_contents(self):
        one = house_of("0:1", EVEN)
        for other in [House(), house_of("0:1"), house_of(EVEN), house_of("0:1", EVEN, "0:2"), house_of("0:2", EVEN)]:
            self.assertIs(one == other, False)
            self.assertIs(other == one, False)
            self.assertIs(one != other, True)

    def test_other_contents_of_the_same_mark(self):
        other = House()
        other.put(forged(ONE))
        self.assertEqual(other.marks(), house_of("0:1").marks())
        self.assertIs(other == house_of("0:1"), False)

    def test_other_things(self):
        house = house_of("0:1")
        for thing in things() + [{}, {ONE: content_of("0:1")}, [ONE], (ONE,), ONE, content_of("0:1"), object(), House]:
            self.assertIs(house == thing, False)
            self.assertIs(house != thing, True)
            self.assertIs(House() == thing, False)

    def test_like(self):
        house = house_of("0:1", EVEN, "0:(#09ds21)")
        other = house.like()
        self.assertIs(type(other), House)
        self.assertIsNot(other, house)
        self.assertEqual(other, house)
        self.assertEqual(told_by(other), told_by(house))

    def test_one_does_not_change_with_the_other(self):
        house = house_of("0:1", EVEN)
        other = house.like()
        kept = told_by(house)
        told = other.put(content_of("0:(#09ds21)"))
        self.assertEqual(told_by(house), kept)
        self.assertIs(house.has(told), False)
        self.assertNotEqual(house, other)
        kept = told_by(other)
        house.put(content_of("0:2"))
        self.assertEqual(told_by(other), kept)
        self.assertEqual(other.called_by(ONE), [told])
        self.assertEqual(house.called_by(ONE), [])

    def test_one_does_not_change_with_another_content_of_the_same_mark_in_the_other(self):
        even = mark(EVEN)
        house = House()
        other = house.like()
        house.put(content_of(EVEN))
        kept = told_by(house)
        other.put(forged(even))
        self.assertEqual(told_by(house), kept)
        self.assertEqual((other.ring(even), other.calls(even)), ([even], []))

    def test_like_of_an_empty_one(self):
        house = House()
        other = house.like()
        other.put(content_of("0:1"))
        self.assertEqual(len(house), 0)
        self.assertEqual(len(other), 1)
        self.assertEqual(len(House()), 0)

    def test_two_houses_to_which_the_same_is_done(self):
        one, other = House(), House()
        for thing in [content_of("0:1"), 5, content_of(EVEN), content_of("0:(#09ds21)"), content_of("0:(#zzzzzz)")]:
            for house in [one, other]:
                try:
                    house.put(thing)
                except (BadContent, NoMark):
                    pass
            self.assertEqual(told_by(one), told_by(other))
            self.assertEqual(one, other)


if __name__ == "__main__":
    unittest.main()
