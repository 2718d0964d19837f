"""[11]: running; [1] (a) of what a mark tells when it's run."""

import copy
import random
import unittest

from contentnames import running
from contentnames.contents import mark_of
from contentnames.errors import BadCall, NoMark, TooLong
from contentnames.house import House
from contentnames.rings import contents_of
from contentnames.running import LIMIT, ran
from samples import Ended, house_with, marks_told_by, ring_calling, run_by_hand, some_bodies

BOUND = 1000002
NEVER = "0:(@0)"
# How many steps a call of DOWN with n takes: 8 for each from n to 1, and 5 for 0, the asked call's term counted.
DOWN = "1:(if a (add 1 (@0 (less a 1))) 7)"


def one_of(term, *numbers, most=LIMIT):
    """What a definition of this term with as many arguments as there are numbers is ran to."""
    house, marks = house_with(f"{len(numbers)}:{term}")
    return ran(house, marks[0], list(numbers), most=most)


class TestWords(unittest.TestCase):
    def test_limit(self):
        self.assertEqual(LIMIT, 1000)
        self.assertEqual(running.LIMIT, 1000)

    def test_what_is_told_is_a_pair_of_numbers(self):
        told = one_of("5")
        self.assertEqual(told, (5, 1))
        self.assertIs(type(told), tuple)
        told = one_of("(under a b)", 1, 2)
        self.assertEqual([type(number) for number in told], [int, int])

    def test_numbers_and_arguments(self):
        for number in [0, 1, 9, 1000001, BOUND]:
            self.assertEqual(one_of(str(number)), (number, 1))
            self.assertEqual(one_of("a", number), (number, 1))
        for place, letter in enumerate("abcd"):
            self.assertEqual(one_of(letter, 10, 20, 30, 40), (10 * (place + 1), 1))

    def test_add(self):
        for one, other, told in [(0, 0, 0), (2, 3, 5), (BOUND, 0, BOUND), (BOUND, 1, 0), (1, BOUND, 0),
                                 (BOUND, BOUND, 1000001), (500001, 500001, BOUND), (500001, 500002, 0)]:
            self.assertEqual(one_of("(add a b)", one, other), (told, 3))
            self.assertEqual(one_of(f"(add {one} {other})"), (told, 3))

    def test_less(self):
        for one, other, told in [(0, 0, 0), (5, 3, 2), (3, 5, 1000001), (0, 1, BOUND), (0, BOUND, 1),
                                 (BOUND, BOUND, 0), (BOUND, 0, BOUND), (1, BOUND, 2)]:
            self.assertEqual(one_of("(less a b)", one, other), (told, 3))
            self.assertEqual(one_of(f"(less {one} {other})"), (told, 3))

    def test_times(self):
        for one, other, told in [(0, BOUND, 0), (3, 5, 15), (BOUND, 1, BOUND), (BOUND, 2, 1000001),
                                 (BOUND, BOUND, 1), (1000, 1000, 1000000), (1001, 1000, 1001000 - 1000003),
                                 (500002, 2, 1)]:
            self.assertEqual(one_of("(times a b)", one, other), (told, 3))
            self.assertEqual(one_of(f"(times {one} {other})"), (told, 3))

    def test_under(self):
        for one, other, told in [(0, 0, 0), (0, 1, 1), (1, 0, 0), (BOUND, BOUND, 0), (1000001, BOUND, 1),
                                 (BOUND, 1000001, 0), (0, BOUND, 1), (9, 10, 1), (10, 9, 0)]:
            self.assertEqual(one_of("(under a b)", one, other), (told, 3))
            self.assertEqual(one_of(f"(under {one} {other})"), (told, 3))

    def test_if(self):
        for first, told in [(0, 30), (1, 20), (2, 20), (BOUND, 20)]:
            self.assertEqual(one_of("(if a 20 30)", first), (told, 3))
            self.assertEqual(one_of(f"(if {first} 20 30)"), (told, 3))
        self.assertEqual(one_of("(if (less a a) 20 30)", 4), (30, 5))
        self.assertEqual(one_of("(if (add 1000002 1) 20 30)"), (30, 5))

    def test_the_way_that_is_not_chosen_is_not_begun(self):
        self.assertEqual(one_of("(if a (add (add 1 1) 1) 5)", 0), (5, 3))
        self.assertEqual(one_of("(if a (add (add 1 1) 1) 5)", 1), (3, 7))
        house, marks = house_with(f"{NEVER};1:(if a (@0) 5);1:(if a 5 (@0));1:(if (if a 1 0) (@0) (if 0 (@0) 6))")
        self.assertEqual(ran(house, marks[1], [0]), (5, 3))
        self.assertEqual(ran(house, marks[2], [3]), (5, 3))
        self.assertEqual(ran(house, marks[3], [0]), (6, 7))
        for mark, number in [(marks[1], 3), (marks[2], 0), (marks[3], 1)]:
            with self.assertRaises(TooLong):
                ran(house, mark, [number])

    def test_terms_within_terms(self):
        self.assertEqual(one_of("(add (times a 10) (less (times b 100) (under a b)))", 3, 7), (30 + 700 - 1, 11))
        self.assertEqual(one_of("(if (under a b) (if (under b c) 1 2) (if (under b c) 3 4))", 1, 2, 3), (1, 9))
        self.assertEqual(one_of("(if (under a b) (if (under b c) 1 2) (if (under b c) 3 4))", 2, 2, 2), (4, 9))


class TestCalls(unittest.TestCase):
    def test_parts_are_the_numbers(self):
        house, marks = house_with("4:(add (times a 1000) (add (times b 100) (add (times c 10) d)));"
                                  "0:(@0 1 2 3 4);3:(@0 c b a (add a b))")
        self.assertEqual(ran(house, marks[0], [5, 6, 7, 8]), (5678, 13))
        self.assertEqual(ran(house, marks[1], []), (1234, 18))
        self.assertEqual(ran(house, marks[2], [1, 2, 3]), (3213, 20))

    def test_calls_within_calls(self):
        house, marks = house_with("1:(add a 1);1:(@0 (@0 a));1:(@1 (@1 (@0 a)));0:(add (@2 10) (@2 (@1 20)))")
        self.assertEqual(ran(house, marks[0], [4]), (5, 3))
        self.assertEqual(ran(house, marks[1], [4]), (6, 9))
        self.assertEqual(ran(house, marks[2], [4]), (9, 25))
        self.assertEqual(ran(house, marks[3], []), (15 + 27, 1 + 1 + 1 + 25 + 1 + 1 + 1 + 9 + 25))

    def test_a_term_counts_as_often_as_it_is_begun(self):
        house, marks = house_with("0:(add 1 1);0:(add (@0) (@0));0:(add (@1) (@1));0:(add (@2) (@2))")
        self.assertEqual([ran(house, mark, []) for mark in marks], [(2, 3), (4, 9), (8, 21), (16, 45)])

    def test_one_that_calls_itself(self):
        house, marks = house_with(DOWN)
        for number in [0, 1, 2, 10, 100]:
            self.assertEqual(ran(house, marks[0], [number]), (7 + number, 3 + 8 * number))
        house, marks = house_with("2:(if a (@0 (less a 1) (times a b)) b)")
        self.assertEqual(ran(house, marks[0], [5, 1])[0], 120)

    def test_rings_of_two_to_twelve(self):
        house, marks = house_with("1:(if a (@1 (less a 1)) 1);1:(if a (@0 (less a 1)) 0);1:(add 10 (@0 a))")
        for number in range(20):
            self.assertEqual(ran(house, marks[0], [number]), (1 - number % 2, 3 + 6 * number))
            self.assertEqual(ran(house, marks[1], [number]), (number % 2, 3 + 6 * number))
            # The ring is called from without.
            self.assertEqual(ran(house, marks[2], [number]), (11 - number % 2, 4 + 3 + 6 * number))
        for many in range(3, 13):
            bodies = ";".join(f"1:(if a (@{(at + 1) % many} (less a 1)) {100 + at})" for at in range(many))
            house, marks = house_with(bodies + f";2:(@{many - 1} (add a b))")
            for at in range(many):
                for number in [0, 1, many - 1, many, 5 * many + 2]:
                    self.assertEqual(ran(house, marks[at], [number]), (100 + (at + number) % many, 3 + 6 * number))
            self.assertEqual(ran(house, marks[many], [1, 2]), (102, 1 + 3 + 3 + 18))

    def test_of_alike_bodies_of_one_ring(self):
        house, marks = house_with("1:(if a (@1 (less a 1)) 1);1:(if a (@0 (less a 1)) 1)")
        self.assertEqual(marks[0], marks[1])
        self.assertEqual(ran(house, marks[0], [3]), (1, 21))

    def test_as_going_through_by_hand_tells(self):
        chance = random.Random(31)
        ends = 0
        for _ in range(300):
            house = House()
            bodies = some_bodies(chance, 6, [], chance.choice([0.1, 0.2, 0.3]))
            contents = contents_of(bodies)
            for _ in range(6):
                for content in contents:
                    try:
                        house.put(content)
                    except NoMark:
                        pass
            for (many, _), content in zip(bodies, contents):
                numbers = [chance.choice([0, 1, 5, BOUND]) for _ in range(many)]
                try:
                    told, steps, _ = run_by_hand(house, mark_of(content), numbers, 100)
                except Ended:
                    with self.assertRaises(TooLong):
                        ran(house, mark_of(content), numbers, most=100)
                    continue
                ends += 1
                self.assertEqual(ran(house, mark_of(content), numbers, most=100), (told, steps))
        self.assertGreater(ends, 300)


class TestMost(unittest.TestCase):
    def too_long(self, house, mark, numbers, most):
        with self.assertRaises(TooLong) as caught:
            ran(house, mark, numbers, most=most)
        self.assertIs(type(caught.exception), TooLong)
        self.assertEqual(caught.exception.what, most)

    def test_just_as_many_and_one_fewer(self):
        house, marks = house_with(f"0:1;1:(if a 2 3);{DOWN.replace('@0', '@2')};0:(@2 (add 1 1))")
        for mark, numbers, steps in [(marks[0], [], 1), (marks[1], [0], 3), (marks[2], [0], 3), (marks[2], [3], 27),
                                     (marks[3], [], 4 + 19)]:
            self.assertEqual(ran(house, mark, numbers, most=steps)[1], steps)
            self.assertEqual(ran(house, mark, numbers, most=5000)[1], steps)
            for most in range(steps):
                self.too_long(house, mark, numbers, most)

    def test_none_at_all(self):
        house, marks = house_with("0:1;0:(@0)")
        for mark in marks:
            self.too_long(house, mark, [], 0)

    def test_left_out_it_is_limit(self):
        house, marks = house_with(f"{DOWN};0:(@0 124);0:(@1);0:(@2);0:(@3);0:(@4)")
        self.assertEqual(ran(house, marks[0], [124]), (131, 995))
        for mark, steps in zip(marks[1:5], [997, 998, 999, 1000]):
            self.assertEqual(ran(house, mark, []), (131, steps))
        with self.assertRaises(TooLong) as caught:
            ran(house, marks[5], [])
        self.assertEqual(caught.exception.what, 1000)
        self.assertEqual(ran(house, marks[5], [], most=1001), (131, 1001))

    def test_many_calls_side_by_side(self):
        # Steps of each: twice as many as of the one ahead, and three: 1, 5, 13, 29, .., 509, 1,021.
        house, marks = house_with("0:1" + "".join(f";0:(add (@{at}) (@{at}))" for at in range(8)))
        steps = 1
        for at, mark in enumerate(marks):
            self.assertEqual(ran(house, mark, [], most=steps), (2 ** at, steps))
            self.too_long(house, mark, [], steps - 1)
            steps = 2 * steps + 3

    def test_runs_of_five_thousand_steps(self):
        house, marks = house_with(DOWN)
        # 3 + 8 * 624 is 4,995, all calls within one another.
        self.assertEqual(ran(house, marks[0], [624], most=5000), (631, 4995))
        self.too_long(house, marks[0], [625], 5000)
        house, marks = house_with("1:(if a (@0 (less a 1)) 5)")
        self.assertEqual(ran(house, marks[0], [832], most=5000), (5, 4995))
        self.too_long(house, marks[0], [833], 5000)

    def test_as_deep_as_most_lets(self):
        house, marks = house_with(f"{NEVER};0:(add 1 (@1));1:(@2 (@2 a));0:(@4);0:(@3)")
        for mark, numbers in [(marks[0], []), (marks[1], []), (marks[2], [1]), (marks[3], [])]:
            for most in [0, 1, 2, 3, 999, 1000, 4999, 5000]:
                self.too_long(house, mark, numbers, most)

    def test_calls_within_one_another_through_a_ring(self):
        house, marks = house_with("1:(if a (@1 (less a 1)) 9);1:(@2 a);1:(@0 a)")
        # 3 at the end; of each turn the if, a, the call and 3 for its part, and 2 of each of the others.
        for turns in [0, 1, 2, 499]:
            steps = 3 + 10 * turns
            self.assertEqual(ran(house, marks[0], [turns], most=steps), (9, steps))
            self.too_long(house, marks[0], [turns], steps - 1)


class TestRefusals(unittest.TestCase):
    def setUp(self):
        self.house, self.marks = house_with(f"0:1;1:a;4:(add a d);{NEVER.replace('@0', '@3')};1:(@4 a)")

    def refused(self, refusal, mark, numbers, most=LIMIT):
        kept = marks_told_by(self.house)
        with self.assertRaises(refusal) as caught:
            ran(self.house, mark, numbers, most=most)
        self.assertIs(type(caught.exception), refusal)
        self.assertEqual(caught.exception.what, mark)
        self.assertEqual(marks_told_by(self.house), kept)

    def test_no_mark(self):
        for mark in ["", "000000", "zzzzzz", "09DS21", "#09ds21", "0:1", "\ud800", "x" * 2000]:
            for numbers in [[], [1], [1] * 9]:
                self.refused(NoMark, mark, numbers)
                self.refused(NoMark, mark, numbers, most=0)
        with self.assertRaises(NoMark):
            ran(House(), self.marks[0], [])

    def test_bad_call(self):
        for mark, many in zip(self.marks, [0, 1, 4, 0, 1]):
            for handed in range(7):
                if handed != many:
                    self.refused(BadCall, mark, [1] * handed)
                    self.refused(BadCall, mark, (1,) * handed)

    def test_bad_call_ahead_of_too_long(self):
        self.refused(BadCall, self.marks[0], [1], most=0)
        self.refused(BadCall, self.marks[3], [1])
        self.refused(BadCall, self.marks[4], [])

    def test_behind_a_refusal_it_goes_on(self):
        for refusal, mark, numbers in [(NoMark, "zzzzzz", []), (BadCall, self.marks[1], [])]:
            self.refused(refusal, mark, numbers)
            self.assertEqual(ran(self.house, self.marks[1], [4]), (4, 1))
        with self.assertRaises(TooLong):
            ran(self.house, self.marks[3], [])
        self.assertEqual(ran(self.house, self.marks[1], [4]), (4, 1))


class TestAsking(unittest.TestCase):
    def test_numbers_as_a_list_and_as_a_tuple(self):
        house, marks = house_with("2:(less a b);4:(add (add a b) (add c d))")
        self.assertEqual(ran(house, marks[0], [7, 2]), ran(house, marks[0], (7, 2)))
        self.assertEqual(ran(house, marks[1], (1, 2, 3, 4)), (10, 7))

    def test_nothing_is_changed_and_the_same_is_told_again(self):
        house, marks = house_with(DOWN)
        kept = marks_told_by(house)
        numbers = [5]
        told = [ran(house, marks[0], numbers) for _ in range(3)]
        self.assertEqual(told, [(12, 43)] * 3)
        self.assertEqual(numbers, [5])
        self.assertEqual(marks_told_by(house), kept)

    def test_of_houses_with_the_same_contents(self):
        house, marks = house_with(DOWN)
        self.assertEqual(ran(house.like(), marks[0], [3]), ran(house, marks[0], [3]))

    def test_what_a_mark_tells_stays_whatever_else_is_put(self):
        house, marks = house_with("1:(if a (@1 (less a 1)) 1);1:(if a (@0 (less a 1)) 0)")
        kept = copy.deepcopy([ran(house, mark, [6]) for mark in marks])
        for content in contents_of(ring_calling(range(5))):
            house.put(content)
        self.assertEqual([ran(house, mark, [6]) for mark in marks], kept)


if __name__ == "__main__":
    unittest.main()
