"""[12]: papers of values; [1] (f)."""

import copy
import itertools
import random
import unittest

from contentnames.contents import mark_of, turned_to
from contentnames.errors import BadCall, NoMark, TooLong
from contentnames.house import House
from contentnames.papers import paper_of, shows_value
from contentnames.rings import contents_of
from contentnames.running import ran
from samples import (Ended, content_of, house_with, marks_told_by, ring_calling, run_by_hand, some_bodies, things,
                     with_a_list)

BOUND = 1000002
NEVER = "0:(@0)"
EVEN_ODD = "1:(if a (@1 (less a 1)) 1);1:(if a (@0 (less a 1)) 0)"


def needed(house, triple, paper):
    """The triples of the paper that this one needs: those of the calls that are begun in its definition."""
    mark, numbers, _ = triple
    content = house.content(mark)
    ring = [mark_of(turned_to(content, place)) for place in range(len(content))]
    found = []

    def begun(term):
        word = term[0]
        if word == "num":
            return term[1]
        if word == "arg":
            return numbers[term[1]]
        if word == "if":
            return begun(term[2] if begun(term[1]) else term[3])
        parts = tuple(begun(part) for part in (term[2] if word in ("call", "ring") else term[1:]))
        if word in ("call", "ring"):
            called = term[1] if word == "call" else ring[term[1]]
            found.append(next(other for other in paper if other[:2] == (called, parts)))
            return found[-1][2]
        one, other = parts
        if word == "under":
            return int(one < other)
        return {"add": one + other, "less": one - other, "times": one * other}[word] % 1000003

    begun(content[0][1])
    return found


class TestPaperOf(unittest.TestCase):
    def test_of_one_that_calls_none(self):
        house, (one, two) = house_with("0:5;2:(add a b)")
        self.assertEqual(paper_of(house, one, []), [(one, (), 5)])
        self.assertEqual(paper_of(house, two, [3, BOUND]), [(two, (3, BOUND), 2)])

    def test_what_is_told_is_a_list_of_triples_with_tuples(self):
        house, (one,) = house_with("2:(add a b)")
        for numbers in [[3, 4], (3, 4)]:
            told = paper_of(house, one, numbers)
            self.assertEqual(told, [(one, (3, 4), 7)])
            self.assertIs(type(told), list)
            self.assertEqual([type(thing) for thing in told[0]], [str, tuple, int])

    def test_in_the_order_in_which_calls_end(self):
        house, (add, twice, four, asked) = house_with(
            "2:(add a b);1:(@0 a a);1:(@1 (@1 a));2:(add (@2 a) (@0 b (@1 b)))")
        self.assertEqual(paper_of(house, twice, [3]), [(add, (3, 3), 6), (twice, (3,), 6)])
        self.assertEqual(paper_of(house, four, [3]), [
            (add, (3, 3), 6), (twice, (3,), 6), (add, (6, 6), 12), (twice, (6,), 12), (four, (3,), 12)])
        self.assertEqual(paper_of(house, asked, [1, 5]), [
            (add, (1, 1), 2), (twice, (1,), 2), (add, (2, 2), 4), (twice, (2,), 4), (four, (1,), 4),
            (add, (5, 5), 10), (twice, (5,), 10), (add, (5, 10), 15), (asked, (1, 5), 19)])

    def test_parts_from_left_to_right(self):
        house, (one, two, three, asked) = house_with(
            "1:(add a 1);1:(add a 2);2:(times a b);0:(@2 (@1 (@0 5)) (@0 (@1 6)))")
        self.assertEqual(paper_of(house, asked, []), [
            (one, (5,), 6), (two, (6,), 8), (one, (8,), 9), (three, (8, 9), 72), (asked, (), 72)])
        house, (one, two, three, asked) = house_with(
            "1:(add a 1);1:(add a 2);2:(times a b);0:(@2 (@1 (@0 5)) (@0 (@1 3)))")
        self.assertEqual(paper_of(house, asked, []), [
            (one, (5,), 6), (two, (6,), 8), (two, (3,), 5), (three, (8, 6), 48), (asked, (), 48)])
        house, (one, two, asked) = house_with("1:(add a 1);1:(add a 2);0:(if (under (@1 1) (@0 3)) (@0 9) (@1 9))")
        self.assertEqual(paper_of(house, asked, []), [
            (two, (1,), 3), (one, (3,), 4), (one, (9,), 10), (asked, (), 10)])

    def test_of_alike_ones_the_first_alone(self):
        house, (one, two, asked) = house_with("1:(add a 1);1:(@0 a);1:(add (@1 a) (add (@0 a) (add (@0 7) (@1 a))))")
        self.assertEqual(paper_of(house, asked, [4]), [
            (one, (4,), 5), (two, (4,), 5), (one, (7,), 8), (asked, (4,), 23)])
        self.assertEqual(paper_of(house, asked, [7]), [(one, (7,), 8), (two, (7,), 8), (asked, (7,), 32)])
        # Calls of one mark by other numbers, and of other marks by the same, aren't alike.
        house, (one, other, asked) = house_with("1:(add a 0);1:(add 0 a);0:(add (@0 1) (add (@1 1) (@0 2)))")
        self.assertEqual(paper_of(house, asked, []), [(one, (1,), 1), (other, (1,), 1), (one, (2,), 2), (asked, (), 4)])

    def test_rings(self):
        house, (even, odd) = house_with(EVEN_ODD)
        self.assertEqual(paper_of(house, even, [3]), [
            (odd, (0,), 0), (even, (1,), 0), (odd, (2,), 0), (even, (3,), 0)])
        self.assertEqual(paper_of(house, odd, [0]), [(odd, (0,), 0)])
        house, (down,) = house_with("1:(if a (add 1 (@0 (less a 1))) 7)")
        self.assertEqual(paper_of(house, down, [2]), [(down, (0,), 7), (down, (1,), 8), (down, (2,), 9)])
        many = 12
        house, marks = house_with(";".join(f"1:(if a (@{(at + 1) % many} (less a 1)) {at})" for at in range(many)))
        self.assertEqual(paper_of(house, marks[3], [20]), [
            (marks[(3 + 20 - left) % many], (left,), 11) for left in range(21)])

    def test_what_is_not_begun_is_not_told(self):
        house, (never, one, asked) = house_with(f"{NEVER};0:1;1:(if a (@0) (@1))")
        self.assertEqual(paper_of(house, asked, [0]), [(one, (), 1), (asked, (0,), 1)])

    def test_refused_as_ran_is(self):
        house, (never, one, asked) = house_with(f"{NEVER};1:(if a 1 2);0:(@1 0)")
        for mark, numbers, most, refusal, what in [
                ("zzzzzz", [], 0, NoMark, "zzzzzz"), ("", [1], 1000, NoMark, ""), (one, [], 0, BadCall, one),
                (one, [1, 2], 1000, BadCall, one), (never, [1], 5, BadCall, never), (never, [], 0, TooLong, 0),
                (never, [], 5000, TooLong, 5000), (one, [0], 2, TooLong, 2), (asked, [], 4, TooLong, 4)]:
            with self.assertRaises(refusal) as caught:
                paper_of(house, mark, numbers, most=most)
            self.assertIs(type(caught.exception), refusal)
            self.assertEqual(caught.exception.what, what)
        self.assertEqual(paper_of(house, asked, [], most=5), [(one, (0,), 2), (asked, (), 2)])
        with self.assertRaises(TooLong) as caught:
            paper_of(house, never, [])
        self.assertEqual(caught.exception.what, 1000)

    def test_five_thousand_steps_within_one_another(self):
        house, (down,) = house_with("1:(if a (@0 (less a 1)) 7)")
        told = paper_of(house, down, [832], most=5000)
        self.assertEqual(told, [(down, (number,), 7) for number in range(833)])
        self.assertIs(shows_value(house, down, [832], 7, told), True)

    def test_as_going_through_by_hand_tells(self):
        chance = random.Random(32)
        ends = 0
        for _ in range(200):
            house, bodies = House(), some_bodies(chance, 6, [], 0.25)
            for content in sorted(contents_of(bodies) * 6, key=len):
                try:
                    house.put(content)
                except NoMark:
                    pass
            for mark in house.marks():
                numbers = [chance.choice([0, 1, BOUND]) for _ in range(house.content(mark)[0][0])]
                try:
                    number, _, ended = run_by_hand(house, mark, numbers, 100)
                except Ended:
                    continue
                ends += 1
                told = paper_of(house, mark, numbers)
                self.assertEqual(told, list(dict.fromkeys(ended)))
                self.assertIs(shows_value(house, mark, numbers, number, told), True)
        self.assertGreater(ends, 300)

    def test_nothing_is_changed_and_the_same_is_told_again(self):
        house, (even, odd) = house_with(EVEN_ODD)
        kept, numbers = marks_told_by(house), [3]
        told = paper_of(house, even, numbers)
        again = copy.deepcopy(told)
        told.clear()
        self.assertEqual(paper_of(house, even, numbers), again)
        self.assertEqual((numbers, marks_told_by(house)), ([3], kept))


class TestShowsValue(unittest.TestCase):
    def setUp(self):
        self.house, (self.add, self.twice, self.four, self.asked) = house_with(
            "2:(add a b);1:(@0 a a);1:(@1 (@1 a));2:(add (@2 a) (@0 b (@1 b)))")
        self.paper = paper_of(self.house, self.asked, [1, 5])

    def shows(self, paper, told=True, number=19, numbers=(1, 5), mark=None):
        for handed in [list(numbers), tuple(numbers)]:
            self.assertIs(shows_value(self.house, mark or self.asked, handed, number, paper), told)

    def test_of_each_paper(self):
        self.shows(self.paper)
        for mark, numbers, number in self.paper:
            self.shows(paper_of(self.house, mark, numbers), number=number, numbers=numbers, mark=mark)

    def test_of_its_beginnings_the_last_ones_value(self):
        for many in range(1, len(self.paper) + 1):
            mark, numbers, number = self.paper[many - 1]
            self.shows(self.paper[:many], number=number, numbers=numbers, mark=mark)

    def test_in_every_other_order(self):
        house, (one, two, asked) = house_with("1:(add a 1);1:(@0 (@0 a));0:(add (@1 4) (@0 7))")
        paper = paper_of(house, asked, [])
        self.assertEqual(len(paper), 5)
        rightly = 0
        for order in itertools.permutations(paper):
            right = order[-1] == paper[-1] and all(
                order.index(other) < at for at, triple in enumerate(order) for other in needed(house, triple, paper))
            rightly += right
            self.assertIs(shows_value(house, asked, [], ran(house, asked, [])[0], list(order)), right, order)
        self.assertEqual(rightly, 8)

    def test_triples_twice(self):
        for at, triple in enumerate(self.paper):
            for place in range(at, len(self.paper)):
                self.shows(self.paper[:place] + [triple] + self.paper[place:])
        self.shows(self.paper + self.paper)
        self.shows([triple for triple in self.paper for _ in range(3)])

    def test_true_ones_of_other_calls(self):
        for at in range(len(self.paper)):
            self.shows(self.paper[:at] + [(self.add, (BOUND, 2), 1)] + self.paper[at:])
            self.shows(self.paper[:at] + paper_of(self.house, self.four, [100]) + self.paper[at:])
        # Another call as the last is another value's paper.
        self.shows(self.paper + [(self.add, (1, 2), 3)], False)
        self.shows(self.paper + [(self.add, (1, 2), 3)], number=3, numbers=(1, 2), mark=self.add)

    def test_one_is_left_out(self):
        for at in range(len(self.paper)):
            self.shows(self.paper[:at] + self.paper[at + 1:], False)
        house, (never, one, asked) = house_with(f"{NEVER};0:1;1:(if a (@0) (@1))")
        self.assertIs(shows_value(house, asked, [0], 1, [(one, (), 1), (asked, (0,), 1)]), True)
        self.assertIs(shows_value(house, asked, [0], 1, [(asked, (0,), 1)]), False)

    def test_one_stands_behind_the_one_that_needs_it(self):
        for at, triple in enumerate(self.paper[:-1]):
            users = [place for place, other in enumerate(self.paper)
                     if triple in needed(self.house, other, self.paper)]
            self.assertTrue(users)
            left = self.paper[:at] + self.paper[at + 1:]
            for place in range(at, len(left)):
                self.shows(left[:place] + [triple] + left[place:], place < min(users))

    def test_another_number(self):
        for at, (mark, numbers, number) in enumerate(self.paper):
            for wrong in [0, number - 1, number + 1, BOUND]:
                self.shows(self.paper[:at] + [(mark, numbers, wrong)] + self.paper[at + 1:], False)
                self.shows(self.paper[:at] + [(mark, numbers, wrong)] + self.paper[at:], False)
        for wrong in [18, 20, 0]:
            self.shows(self.paper[:-1] + [(self.asked, (1, 5), wrong)], False, number=wrong)
            self.shows(self.paper, False, number=wrong)

    def test_other_numbers_are_asked_for(self):
        self.shows(self.paper, False, numbers=(5, 1))
        self.shows(self.paper, False, numbers=(1, 6))
        self.shows(self.paper, False, mark=self.add, numbers=(1, 5))

    def test_two_that_would_hold_each_other(self):
        house, (one, other, asked) = house_with("1:(@1 a);1:(@0 a);0:(@0 3)")
        for number in [0, 5]:
            one_first = [(one, (3,), number), (other, (3,), number), (asked, (), number)]
            other_first = [(other, (3,), number), (one, (3,), number), (asked, (), number)]
            for paper in [one_first, other_first, one_first[:2] * 2 + one_first]:
                self.assertIs(shows_value(house, asked, [], number, paper), False)

    def test_one_that_calls_itself_with_its_very_numbers(self):
        house, (never, same, other) = house_with("0:(@0);1:(if a (add (@1 a) 0) 4);2:(if (under a b) (@2 a b) a)")
        for number in [0, 4]:
            self.assertIs(shows_value(house, never, [], number, [(never, (), number)]), False)
            self.assertIs(shows_value(house, never, [], number, [(never, (), number)] * 3), False)
            self.assertIs(shows_value(house, same, [1], number, [(same, (1,), number)] * 2), False)
        self.assertIs(shows_value(house, same, [0], 4, [(same, (0,), 4)]), True)
        self.assertIs(shows_value(house, other, [1, 2], 1, [(other, (1, 2), 1), (other, (1, 2), 1)]), False)
        self.assertIs(shows_value(house, other, [2, 1], 2, [(other, (2, 1), 2)]), True)

    def test_a_mark_that_is_not_there(self):
        for mark in ["zzzzzz", "", "add", "09DS21", "\ud800", self.add + "0", self.add.upper() + "!"]:
            for at in range(len(self.paper)):
                self.shows(self.paper[:at] + [(mark, (), 1)] + self.paper[at:], False)
                self.shows(self.paper[:at] + [(mark, *self.paper[at][1:])] + self.paper[at + 1:], False)
        for mark in things() + [[self.add], (self.add,), 5, None, True]:
            self.shows([(mark, (), 1)] + self.paper, False)

    def test_numbers_more_or_fewer(self):
        for wrong in [(), (1,), (1, 1, 1), (1, 1, 1, 1), (1,) * 5]:
            self.shows([(self.add, wrong, 2)] + self.paper, False)
        self.shows([(self.twice, (), 0)] + self.paper, False)
        self.shows([(self.twice, (1, 1), 2)] + self.paper, False)

    def test_beyond_the_bounds(self):
        house, (same, add, left) = house_with("1:a;2:(add a b);2:(if a b 5)")
        for number in [-1, BOUND + 1, 10 ** 30, -10 ** 30]:
            self.assertIs(shows_value(house, same, [number], number, [(same, (number,), number)]), False)
            self.assertIs(shows_value(house, same, [1], 1, [(same, (number,), number), (same, (1,), 1)]), False)
            self.assertIs(shows_value(house, left, [0, 1], 5, [(left, (0, number), 5), (left, (0, 1), 5)]), False)
            self.assertIs(shows_value(house, left, [0, number], 5, [(left, (0, number), 5)]), False)
        self.assertIs(shows_value(house, same, [BOUND], BOUND, [(same, (BOUND,), BOUND)]), True)
        self.assertIs(shows_value(house, same, [0], 0, [(same, (0,), 0)]), True)
        self.assertIs(shows_value(house, add, [BOUND, 1], BOUND + 1, [(add, (BOUND, 1), BOUND + 1)]), False)
        self.assertIs(shows_value(house, add, [BOUND, 1], 0, [(add, (BOUND, 1), 0)]), True)

    def test_truths_for_numbers(self):
        house, (same, under, ignored) = house_with("1:a;2:(under a b);1:5")
        self.assertIs(shows_value(house, same, [1], 1, [(same, (1,), 1)]), True)
        for paper in [[(same, (True,), 1)], [(same, (1,), True)], [(same, (True,), True)]]:
            self.assertIs(shows_value(house, same, [1], 1, paper), False)
            self.assertIs(shows_value(house, same, [1], True, paper), False)
            self.assertIs(shows_value(house, same, [1], 1, paper + [(same, (1,), 1)]), False)
        self.assertIs(shows_value(house, under, [0, 1], 1, [(under, (0, 1), True)]), False)
        self.assertIs(shows_value(house, under, [1, 0], 0, [(under, (1, 0), False)]), False)
        self.assertIs(shows_value(house, under, [1, 0], 0, [(under, (1, False), 0)]), False)
        self.assertIs(shows_value(house, ignored, [0], 5, [(ignored, (False,), 5), (ignored, (0,), 5)]), False)

    def test_lists_for_tuples_and_tuples_for_lists(self):
        self.shows(tuple(self.paper), False)
        for at, triple in enumerate(self.paper):
            for changed in with_a_list(triple):
                self.shows(self.paper[:at] + [changed] + self.paper[at + 1:], False)
                self.shows(self.paper[:at] + [changed] + self.paper[at:], False)
        self.shows((tuple(self.paper),), False)
        self.shows([self.paper], False)

    def test_an_empty_list(self):
        self.shows([], False)
        self.shows((), False)

    def test_things_of_any_kind(self):
        for thing in things() + ["paper", tuple(self.paper), [self.paper], str(self.paper), [None] * 3]:
            self.shows(thing, False)
            for at in [0, 4, len(self.paper)]:
                self.shows(self.paper[:at] + [thing] + self.paper[at:], False)
            self.shows([(thing, (1, 5), 19)], False)
            self.shows([(self.add, thing, 19)] + self.paper, False)
            self.shows([(self.add, (1, 2), thing)] + self.paper, False)
            # One and one are two, but not one and True.
            self.shows([(self.add, (1, thing), 2)] + self.paper, type(thing) is int and thing == 1)
        mark, numbers, number = self.paper[0]
        for thing in [(), (mark,), (mark, numbers), (mark, numbers, number, number), (mark, number, numbers),
                      (numbers, mark, number), (mark, None, number), (mark, numbers, None), (mark, "11", number)]:
            self.shows([thing] + self.paper, False)

    def test_number_is_any_thing(self):
        for thing in things() + [19.0, "19", [19], (19,), "x", {}, object(), -1, BOUND + 1, self.paper]:
            self.shows(self.paper, False, number=thing)
            self.shows([], False, number=thing)
        house, (one,) = house_with("0:1")
        for number, told in [(1, True), (True, False), (1.0, False), ("1", False), (None, False), (0, False)]:
            self.assertIs(shows_value(house, one, [], number, [(one, (), 1)]), told)

    def test_refused_whatever_thing_and_number_are(self):
        for thing in things() + [self.paper]:
            for mark in ["zzzzzz", "", "\ud800"]:
                for numbers in [[], [1, 5], [1] * 7]:
                    with self.assertRaises(NoMark) as caught:
                        shows_value(self.house, mark, numbers, thing, thing)
                    self.assertEqual(caught.exception.what, mark)
            for mark, many in [(self.add, 2), (self.twice, 1), (self.asked, 2)]:
                for handed in range(6):
                    if handed != many:
                        with self.assertRaises(BadCall) as caught:
                            shows_value(self.house, mark, [1] * handed, thing, thing)
                        self.assertIs(type(caught.exception), BadCall)
                        self.assertEqual(caught.exception.what, mark)

    def test_papers_with_a_change_show_what_ran_tells_or_nothing(self):
        chance = random.Random(33)
        house, marks = house_with(f"{EVEN_ODD};2:(add (@0 a) (if b (@1 (add a b)) 3));1:(@2 (@2 a 0) (@2 1 a))")
        shown = 0
        for _ in range(1500):
            mark = chance.choice(marks)
            numbers = [chance.randint(0, 3) for _ in range(house.content(mark)[0][0])]
            paper = paper_of(house, mark, numbers)
            for _ in range(chance.randint(1, 2)):
                at = chance.randrange(len(paper))
                change = chance.randrange(4)
                if change == 0:
                    paper.insert(chance.randrange(len(paper)), paper[at])
                elif change == 1 and len(paper) > 1:
                    del paper[at]
                elif change == 2:
                    paper[at] = (*paper[at][:2], chance.randint(0, 3))
                else:
                    paper[at] = (chance.choice(marks), *paper[at][1:])
            for number in range(5):
                if shows_value(house, mark, numbers, number, paper):
                    shown += 1
                    self.assertEqual(ran(house, mark, numbers)[0], number)
        self.assertGreater(shown, 50)

    def test_asking_changes_nothing(self):
        kept, paper = marks_told_by(self.house), copy.deepcopy(self.paper)
        for _ in range(2):
            self.shows(self.paper)
            self.shows(self.paper[1:], False)
        self.assertEqual((marks_told_by(self.house), self.paper), (kept, paper))

    def test_three_hundred_rows(self):
        house, (down,) = house_with("1:(if a (add 1 (@0 (less a 1))) 7)")
        paper = paper_of(house, down, [299], most=5000)
        self.assertEqual(len(paper), 300)
        self.assertIs(shows_value(house, down, [299], 306, paper), True)
        self.assertIs(shows_value(house, down, [299], 306, paper[:150] + paper[151:]), False)
        self.assertIs(shows_value(house, down, [299], 306, paper[::-1]), False)

    def test_what_is_shown_stays_whatever_else_is_put(self):
        for content in contents_of(ring_calling(range(5))) + [content_of("0:5")]:
            self.house.put(content)
        self.shows(self.paper)


if __name__ == "__main__":
    unittest.main()
