"""[19]: what houses bring one another; [1] (e)."""

import itertools
import random
import unittest

from contentnames.contents import calls_in, content_text, is_content, mark_of, turned_to
from contentnames.errors import BadCall, BadContent, NoMark, Taken
from contentnames.house import House
from contentnames.rings import contents_of
from contentnames.running import ran
from contentnames.sharing import parcel, pulled, unpacked
from bookwork import TEXTS
from samples import content_of, forged, house_with, marks_told_by, ring_calling, some_bodies, things

EVEN_ODD = "1:(if a (@1 (less a 1)) 1);1:(if a (@0 (less a 1)) 0)"


def told_marks(contents):
    """The marks of the contents, in their order."""
    return [mark_of(content) for content in contents]


def parcel_by_hand(house, marks, has):
    """What a parcel has to be, by going through all that is there again and again."""
    rings = {mark: tuple(sorted(house.ring(mark))) for mark in house.marks()}
    wanted = []
    for _ in range(len(rings) + 1):
        wanted = sorted({rings[mark] for mark in marks} | {rings[called] for ring in wanted for mark in ring
                                                           for called in house.calls(mark)})
        wanted = [ring for ring in wanted if not any(mark in has for mark in ring)]
    told = []
    while len(told) < len(wanted):
        told.append(next(ring for ring in wanted if ring not in told and all(
            rings[called] in told + [ring] or rings[called] not in wanted
            for mark in ring for called in house.calls(mark))))
    return [house.content(ring[0]) for ring in told]


def some_house(chance):
    """Some house with rings that call one another."""
    house = House()
    for _ in range(4):
        marks = [mark for mark in house.marks() if house.content(mark)[0][0] == 0]
        left = contents_of(some_bodies(chance, 4, marks[:6], 0.45))
        while left:
            ready = [content for content in left if all(house.has(called) for called in calls_in(content))]
            house.put(ready[0])
            left.remove(ready[0])
    return house


class TestParcel(unittest.TestCase):
    def setUp(self):
        # Two and three call one; four calls two and three; even and odd are a ring, and ten and nine call it.
        self.house, self.marks = house_with(
            "0:1;1:(add a (@0));1:(less a (@0));0:(add (@1 1) (@2 2));" + EVEN_ODD.replace("@1", "@5").replace("@0", "@4")
            + ";0:(add (@4 10) (@1 1));0:(@5 9)")
        self.one, self.two, self.three, self.four, self.even, self.odd, self.ten, self.nine = self.marks

    def is_right(self, marks, has=()):
        """The parcel is as one by hand, whichever of lists and tuples are handed in."""
        kept = marks_told_by(self.house)
        told = parcel(self.house, list(marks), has=list(has))
        self.assertIs(type(told), list)
        self.assertEqual(told, parcel_by_hand(self.house, marks, has))
        self.assertEqual(parcel(self.house, tuple(marks), has=tuple(has)), told)
        self.assertEqual(marks_told_by(self.house), kept)
        return told_marks(told)

    def test_of_none(self):
        self.assertEqual(parcel(self.house, []), [])
        self.assertEqual(parcel(self.house, (), has=[self.one]), [])
        self.assertEqual(parcel(House(), []), [])

    def test_of_one_that_calls_none(self):
        self.assertEqual(self.is_right([self.one]), [self.one])
        self.assertEqual(parcel(self.house, [self.one]), [content_of("0:1")])

    def test_of_what_is_called_in_one_step_or_more(self):
        self.assertEqual(self.is_right([self.two]), [self.one, self.two])
        self.assertEqual(self.is_right([self.four]), [self.one, *sorted([self.two, self.three]), self.four])

    def test_of_a_ring_the_least_mark(self):
        least = min(self.even, self.odd)
        for marks in [[self.even], [self.odd], [self.even, self.odd], [self.odd, self.even, self.odd]]:
            self.assertEqual(self.is_right(marks), [least])
            self.assertEqual(parcel(self.house, marks), [self.house.content(least)])
        self.assertEqual(self.is_right([self.nine]), [least, self.nine])

    def test_each_once(self):
        told = self.is_right(self.marks)
        self.assertEqual(sorted(told), sorted(set(self.marks) - {max(self.even, self.odd)}))
        self.assertEqual(self.is_right(self.marks[::-1] * 2), told)

    def test_each_behind_those_that_it_calls(self):
        for many in [1, 2, 3]:
            for marks in itertools.permutations(self.marks, many):
                told = parcel(self.house, marks)
                house = House()
                for content in told:
                    self.assertTrue(all(house.has(called) for called in calls_in(content)))
                    house.put(content)
                for mark in marks:
                    self.assertIs(house.has(mark), True)

    def test_of_several_that_may_be_next_the_least(self):
        house = House()
        numbers = [house.put(((0, ("add", ("num", number), ("num", 10 ** number))),)) for number in range(6)]
        self.assertEqual(told_marks(parcel(house, numbers)), sorted(numbers))
        self.assertEqual(told_marks(parcel(house, numbers[::-1])), sorted(numbers))
        # One that is freed early stands ahead of greater ones that were free from the beginning.
        least, greatest = min(numbers), max(numbers)
        callers = [house.put(((0, ("add", ("call", least, ()), ("num", number))),)) for number in range(20)]
        early = [mark for mark in callers if mark < greatest]
        self.assertTrue(early)
        told = told_marks(parcel(house, [greatest] + early))
        self.assertEqual(told, [least] + sorted(early) + [greatest])
        # One that calls the greatest stands behind it, however small its mark.
        late = [house.put(((0, ("add", ("call", greatest, ()), ("num", number))),)) for number in range(20)]
        small = min(late)
        self.assertLess(small, greatest)
        self.assertEqual(told_marks(parcel(house, [small, least])), [least, greatest, small])

    def test_by_the_least_mark_of_a_ring_not_by_the_asked_one(self):
        least, most = sorted([self.even, self.odd])
        sums = [((0, ("add", ("num", number), ("num", 1))),) for number in range(2000)]
        between = [content for content in sums if least < mark_of(content) < most]
        self.assertTrue(between)
        mark = self.house.put(between[0])
        self.assertEqual(told_marks(parcel(self.house, [most, mark])), [least, mark])
        self.assertEqual(told_marks(parcel(self.house, [mark, most])), [least, mark])

    def test_has(self):
        self.assertEqual(self.is_right([self.four], [self.one]), [*sorted([self.two, self.three]), self.four])
        self.assertEqual(self.is_right([self.four], [self.two]), [self.one, self.three, self.four])
        # Beyond what stands in has nothing is looked for.
        self.assertEqual(self.is_right([self.four], [self.two, self.three]), [self.four])
        self.assertEqual(self.is_right([self.two, self.one], [self.two]), [self.one])
        self.assertEqual(self.is_right([self.four], [self.four]), [])
        self.assertEqual(self.is_right(self.marks, self.marks), [])
        self.assertEqual(self.is_right([self.two], [self.four]), [self.one, self.two])

    def test_has_of_one_of_a_ring(self):
        for mark in [self.even, self.odd]:
            self.assertEqual(self.is_right([self.even], [mark]), [])
            self.assertEqual(self.is_right([self.odd], [mark]), [])
            self.assertEqual(self.is_right([self.nine], [mark]), [self.nine])
            self.assertEqual(self.is_right([self.ten, self.odd], [mark]), [self.one, self.two, self.ten])

    def test_beyond_a_ring_in_has_nothing_is_looked_for(self):
        house, marks = house_with("0:1;0:(add (@2) (@0));0:(add (@1) 2);0:(@2)")
        self.assertEqual(told_marks(parcel(house, [marks[3]], has=[marks[1]])), [marks[3]])
        self.assertEqual(told_marks(parcel(house, [marks[3], marks[0]], has=[marks[1]])),
                         told_marks(parcel_by_hand(house, [marks[3], marks[0]], [marks[1]])))

    def test_has_of_any_texts(self):
        self.assertEqual(self.is_right([self.two], TEXTS), [self.one, self.two])
        self.assertEqual(self.is_right([self.two], TEXTS + [self.one]), [self.two])

    def test_no_mark_of_the_first(self):
        for texts in [TEXTS, TEXTS[::-1]]:
            for at, text in enumerate(texts):
                for has in [[], [text], TEXTS, self.marks]:
                    for marks in [[text], [self.one, text], [text, self.one], texts[at:]]:
                        for kind in [list, tuple]:
                            with self.assertRaises(NoMark) as caught:
                                parcel(self.house, kind(marks), has=kind(has))
                            self.assertIs(type(caught.exception), NoMark)
                            self.assertEqual(caught.exception.what, text)
        with self.assertRaises(NoMark) as caught:
            parcel(House(), [self.two], has=[self.two])
        self.assertEqual(caught.exception.what, self.two)

    def test_as_going_through_all_tells(self):
        chance = random.Random(91)
        for _ in range(80):
            self.house = some_house(chance)
            marks = self.house.marks()
            for _ in range(4):
                some = chance.sample(marks, chance.randint(0, len(marks)))
                self.is_right(some, chance.sample(marks, chance.randint(0, 3)))

    def test_nothing_is_changed_and_what_is_told_is_the_askers(self):
        marks, has = [self.four, self.nine], [self.one]
        told = parcel(self.house, marks, has=has)
        again = list(told)
        told.clear()
        self.assertEqual(parcel(self.house, marks, has=has), again)
        self.assertEqual((marks, has), ([self.four, self.nine], [self.one]))


class TestUnpacked(unittest.TestCase):
    def setUp(self):
        self.house, self.marks = house_with("0:1;1:(add a (@0));0:(add (@1 2) (@4 3));" + EVEN_ODD.replace(
            "@1", "@4").replace("@0", "@3"))

    def refused(self, house, contents, refusal, what):
        kept = marks_told_by(house)
        for kind in [list, tuple]:
            with self.assertRaises(refusal) as caught:
                unpacked(house, kind(contents))
            self.assertIs(type(caught.exception), refusal)
            self.assertEqual(caught.exception.what, what)
            self.assertEqual(marks_told_by(house), kept)

    def test_into_a_bare_house(self):
        for kind in [list, tuple]:
            house = House()
            told = unpacked(house, kind(parcel(self.house, self.marks)))
            self.assertEqual(told, sorted(self.marks))
            self.assertIs(type(told), list)
            self.assertEqual(house, self.house)

    def test_again(self):
        house = House()
        contents = parcel(self.house, self.marks)
        unpacked(house, contents)
        self.assertEqual(unpacked(house, contents), [])
        self.assertEqual(unpacked(house, contents * 2), [])
        self.assertEqual(unpacked(self.house, contents), [])
        self.assertEqual(unpacked(house, []), [])

    def test_told_are_those_that_were_not_there(self):
        house = House()
        house.put(content_of("0:1"))
        house.put(content_of("0:7"))
        told = unpacked(house, parcel(self.house, self.marks))
        self.assertEqual(told, sorted(set(self.marks) - {self.marks[0]}))
        self.assertEqual(len(house), 6)

    def test_a_ring_brings_all_of_it(self):
        for mark in self.marks[3:]:
            house = House()
            self.assertEqual(unpacked(house, [self.house.content(mark)]), sorted(self.marks[3:]))
        house = House()
        self.assertEqual(unpacked(house, [self.house.content(mark) for mark in self.marks[3:]]), sorted(self.marks[3:]))

    def test_one_left_out(self):
        contents = parcel(self.house, [self.marks[2]])
        self.assertEqual(len(contents), 4)
        for at, content in enumerate(contents[:-1]):
            left = contents[:at] + contents[at + 1:]
            missing = mark_of(content)
            # The least that the first one that calls it can't do without.
            caller = next(other for other in left if any(
                called in self.house.ring(missing) for called in calls_in(other)))
            needed = next(called for called in calls_in(caller) if called in self.house.ring(missing))
            self.refused(House(), left, NoMark, needed)
            house = House()
            house.put(content_of("0:7"))
            self.refused(house, left, NoMark, needed)
            unpacked(house, [content] if not calls_in(content) else contents[:at + 1])
            unpacked(house, left)
            self.assertIs(house.has(self.marks[2]), True)

    def test_in_another_order(self):
        contents = parcel(self.house, [self.marks[2]])
        for order in itertools.permutations(contents):
            right = all(self.house.ring(called)[0] in {mark for other in order[:at]
                                                       for mark in self.house.ring(mark_of(other))}
                        for at, content in enumerate(order) for called in calls_in(content))
            house = House()
            if right:
                self.assertEqual(len(unpacked(house, order)), 5)
            else:
                with self.assertRaises(NoMark):
                    unpacked(house, order)
                self.assertEqual(len(house), 0)

    def test_refused_as_put_is_of_the_first_that_is(self):
        one, two = content_of("0:1"), content_of("0:2")
        wrong, missing = content_of("0:(#09ds21 1)"), content_of("0:(#zzzzzz)")
        house = House()
        house.put(forged(mark_of(two)))
        self.refused(house, [one, two], Taken, mark_of(two))
        self.refused(house, [one, two, wrong, missing, 5], Taken, mark_of(two))
        self.refused(house, [one, wrong, two], BadCall, "09ds21")
        self.refused(house, [wrong, one], NoMark, "09ds21")
        self.refused(house, [one, missing, two, 5], NoMark, "zzzzzz")
        self.refused(house, [one, 5, missing], BadContent, 5)
        for thing in things() + ["0:1", list(one)]:
            self.refused(house, [one, content_of("0:3"), thing, missing], BadContent, thing)
            self.refused(House(), [thing], BadContent, thing)

    def test_taken_among_these(self):
        one = content_of("0:1")
        self.refused(House(), [content_of("0:3"), one, forged("09ds21")], Taken, "09ds21")
        self.refused(House(), [content_of("0:3"), forged("09ds21"), one], Taken, "09ds21")

    def test_what_is_there_stays(self):
        house = House()
        kept = [house.put(content_of("0:1")), house.put(content_of("0:7"))]
        self.refused(house, [content_of("0:1"), content_of("0:8"), content_of("0:(#zzzzzz)")], NoMark, "zzzzzz")
        self.assertEqual(house.marks(), sorted(kept))

    def test_nothing_else_is_changed(self):
        contents = parcel(self.house, self.marks)
        kept, there = list(contents), marks_told_by(self.house)
        house = House()
        unpacked(house, contents)
        self.assertEqual((contents, marks_told_by(self.house)), (kept, there))
        house.put(content_of("0:9"))
        self.assertEqual(marks_told_by(self.house), there)


class TestPulled(unittest.TestCase):
    def setUp(self):
        self.house, self.marks = house_with("0:1;1:(add a (@0));0:(add (@1 2) (@4 3));" + EVEN_ODD.replace(
            "@1", "@4").replace("@0", "@3"))

    def test_into_a_bare_house(self):
        for kind in [list, tuple]:
            house = House()
            self.assertEqual(pulled(house, self.house, kind(self.marks)), sorted(self.marks))
            self.assertEqual(house, self.house)

    def test_once_more_nothing_is_brought(self):
        house = House()
        pulled(house, self.house, [self.marks[2]])
        for _ in range(2):
            self.assertEqual(pulled(house, self.house, [self.marks[2]]), [])
            self.assertEqual(pulled(house, self.house, self.marks), [])
        self.assertEqual(pulled(house, house, house.marks()), [])

    def test_just_what_is_not_there(self):
        house = House()
        house.put(content_of("0:1"))
        house.put(self.house.content(self.marks[4]))
        self.assertEqual(pulled(house, self.house, [self.marks[2]]), sorted(self.marks[1:3]))
        self.assertEqual(ran(house, self.marks[2], []), ran(self.house, self.marks[2], []))

    def test_two_houses_that_bring_one_another_halves(self):
        chance = random.Random(92)
        for _ in range(40):
            whole = some_house(chance)
            one, other = House(), House()
            for house in [one, other]:
                pulled(house, whole, chance.sample(whole.marks(), len(whole) // 2))
            ahead = set(one.marks()), set(other.marks())
            self.assertEqual(set(pulled(one, other, other.marks())), ahead[1] - ahead[0])
            self.assertEqual(set(pulled(other, one, one.marks())), ahead[0] - ahead[1])
            self.assertEqual(one, other)
            self.assertEqual(marks_told_by(one), marks_told_by(other))

    def test_no_mark(self):
        for text in TEXTS:
            house = House()
            with self.assertRaises(NoMark) as caught:
                pulled(house, self.house, [self.marks[0], text])
            self.assertEqual(caught.exception.what, text)
            self.assertEqual(len(house), 0)
        # Also of what the house has, but not the other.
        with self.assertRaises(NoMark):
            pulled(self.house, House(), [self.marks[0]])

    def test_taken(self):
        house = House()
        house.put(forged(self.marks[2]))
        self.assertEqual(pulled(house, self.house, [self.marks[2]]), [])
        house = House()
        house.put(forged(self.marks[4]))
        # Of the ring one stands there, so it isn't looked for, and what calls the other one can't be put.
        with self.assertRaises((NoMark, BadCall, Taken)):
            pulled(house, self.house, [self.marks[2]])
        self.assertEqual(len(house), 1)

    def test_the_other_stays(self):
        kept = marks_told_by(self.house)
        house = House()
        pulled(house, self.house, self.marks)
        house.put(content_of("0:9"))
        self.assertEqual(marks_told_by(self.house), kept)

    def test_three_hundred_contents(self):
        house = House()
        last = house.put(content_of("0:1"))
        for number in range(287):
            last = house.put(((0, ("add", ("call", last, ()), ("num", number))),))
        ring = house.put(tuple(ring_calling(range(12))))
        self.assertEqual(len(house), 300)
        other = House()
        self.assertEqual(pulled(other, house, [last, ring]), house.marks())
        self.assertEqual(len(parcel(house, house.marks())), 289)
        self.assertEqual([is_content(content) for content in parcel(house, [ring])], [True])
        self.assertEqual([content_text(turned_to(parcel(house, [ring])[0], 0))],
                         [content_text(house.content(min(house.ring(ring))))])


if __name__ == "__main__":
    unittest.main()
