"""[7]: which bodies say the same."""

import copy
import itertools
import random
import unittest

from contentnames.groups import saying
from samples import MARK, NUM, bodies_in, line_calling, reordered, ring_calling, same_pairs, some_bodies


def nested(number):
    """A term that is eight deep, with the number at its deepest."""
    term = ("num", number)
    for _ in range(7):
        term = ("add", ("arg", 0), term)
    return term


class TestSaying(unittest.TestCase):
    def told(self, text, numbers):
        self.assertEqual(saying(bodies_in(text)), numbers, text)

    def test_one(self):
        self.told("0:1", [0])
        self.told("1:a", [0])
        self.told("1:(@0 a)", [0])
        self.told("2:(@0 (@0 a b) (@0 b a))", [0])

    def test_alike_and_unlike_without_ring_calls(self):
        self.told("0:1;0:1", [0, 0])
        self.told("0:1;0:2", [0, 1])
        self.told("2:(add a b);2:(add b a);2:(add a b);2:(less a b);2:(add b a)", [0, 1, 0, 2, 1])

    def test_two_that_call_each_other_and_one_that_calls_itself(self):
        self.told("1:(if a (@1 (less a 1)) 0);1:(if a (@0 (less a 1)) 0);1:(if a (@2 (less a 1)) 0)", [0, 0, 0])
        self.told("0:(@1);0:(@0);0:(@2)", [0, 0, 0])
        self.told("0:(@0);0:(@0);0:(@1)", [0, 0, 0])

    def test_evens_and_odds(self):
        self.told("1:(if a (@1 (less a 1)) 1);1:(if a (@0 (less a 1)) 0)", [0, 1])

    def test_a_twin_of_evens_and_of_odds(self):
        even, odd = "1:(if a ({} (less a 1)) 1)", "1:(if a ({} (less a 1)) 0)"
        text = ";".join([even.format("@1"), odd.format("@2"), even.format("@3"), odd.format("@0")])
        self.told(text, [0, 1, 0, 1])
        text = ";".join([odd.format("@3"), even.format("@0"), odd.format("@1"), even.format("@2")])
        self.told(text, [0, 1, 0, 1])
        text = ";".join([even.format("@1"), odd.format("@0"), odd.format("@0"), even.format("@2")])
        self.told(text, [0, 1, 1, 0])

    def test_a_ring_of_six_that_is_one_of_one_two_three_or_six(self):
        self.assertEqual(saying(ring_calling([7, 7, 7, 7, 7, 7])), [0, 0, 0, 0, 0, 0])
        self.assertEqual(saying(ring_calling([7, 8, 7, 8, 7, 8])), [0, 1, 0, 1, 0, 1])
        self.assertEqual(saying(ring_calling([7, 8, 9, 7, 8, 9])), [0, 1, 2, 0, 1, 2])
        self.assertEqual(saying(ring_calling([7, 7, 8, 7, 7, 8])), [0, 1, 2, 0, 1, 2])
        self.assertEqual(saying(ring_calling([7, 8, 9, 7, 8, 10])), [0, 1, 2, 3, 4, 5])
        self.assertEqual(saying(ring_calling([7, 7, 7, 7, 7, 8])), [0, 1, 2, 3, 4, 5])

    def test_twelve_alike_and_one_otherwise(self):
        self.assertEqual(saying(ring_calling([5] * 12)), [0] * 12)
        for other in range(12):
            numbers = [5] * 12
            numbers[other] = 6
            self.assertEqual(saying(ring_calling(numbers)), list(range(12)))
        alone = [(1, ("ring", place, (("arg", 0),))) for place in range(12)]
        self.assertEqual(saying(alone), [0] * 12)
        for other in range(1, 12):
            bodies = list(alone)
            bodies[other] = (1, ("ring", 0, (NUM,)))
            self.assertEqual(saying(bodies), [0] * other + [1] + [0] * (11 - other))

    def test_a_line_is_parted_again_and_again(self):
        for many in [2, 3, 7, 12, 60]:
            self.assertEqual(saying(line_calling(many)), list(range(many)))
        two_lines = line_calling(6) + [(0, ("ring", place, ())) for place in range(7, 12)] + [(0, NUM)]
        self.assertEqual(saying(two_lines), [0, 1, 2, 3, 4, 5] * 2)
        unlike_ends = two_lines[:11] + [(0, ("num", 2))]
        self.assertEqual(saying(unlike_ends), list(range(12)))

    def test_alike_but_for_a_mark(self):
        self.told("0:(#0k3f9a);0:(#0k3f9a);0:(#0k3f9b)", [0, 0, 1])
        self.told("1:(add (#0k3f9a a) 1);1:(add (#zzzzzz a) 1)", [0, 1])
        self.told("0:(@1);0:(#0k3f9a);0:(@3);0:(#0k3f9b)", [0, 1, 2, 3])

    def test_alike_but_for_one_number_deep_within(self):
        self.assertEqual(saying([(1, nested(5)), (1, nested(6)), (1, nested(5))]), [0, 1, 0])
        self.assertEqual(saying([(1, nested(0)), (1, nested(1000002))]), [0, 1])

    def test_alike_but_for_an_argument_or_a_word(self):
        self.told("2:(add a b);2:(add a a);2:(times a b);2:(under a b);2:(less a b)", [0, 1, 2, 3, 4])
        self.told("1:1;1:a", [0, 1])

    def test_alike_but_for_one_call_at_the_second_spot(self):
        self.told("0:(add (@2) (@2));0:(add (@2) (@3));0:1;0:2", [0, 1, 2, 3])
        self.told("0:(add (@2) (@2));0:(add (@2) (@3));0:1;0:1", [0, 0, 1, 1])
        self.told("0:(add (@0) (@1));0:(add (@0) (@2));0:3", [0, 1, 2])
        self.told("0:(add (@2) (@3));0:(add (@3) (@2));0:1;0:2", [0, 1, 2, 3])

    def test_alike_but_for_one_call_within_the_parts_of_another(self):
        self.told("1:(@0 (@2 1));1:(@0 (@3 1));1:2;1:3", [0, 1, 2, 3])
        self.told("1:(@2 (@3 1));1:(@3 (@2 1));1:2;1:3", [0, 1, 2, 3])
        self.told("1:(#0k3f9a (@2 1));1:(#0k3f9a (@3 1));1:2;1:2", [0, 0, 1, 1])

    def test_alike_but_for_how_many_arguments(self):
        self.told("0:1;1:1;2:1;3:1;4:1;0:1", [0, 1, 2, 3, 4, 0])
        self.told("1:(if a 1 2);2:(if a 1 2)", [0, 1])

    def test_ring_calls_with_unlike_parts(self):
        self.told("1:(@0 a);1:(@0 1);1:(@0 2);1:(@0 1)", [0, 1, 2, 1])
        self.told("0:(@0);1:(@1 a);2:(@2 a b)", [0, 1, 2])

    def test_a_call_of_a_place_and_the_same_without_it(self):
        self.told("0:(add 1 (@1));0:1;0:(add 1 1)", [0, 1, 2])

    def test_numbers_as_they_first_come_in_whatever_order(self):
        bodies = bodies_in("0:(add (@1) 1);0:(add (@0) 1);0:(add (@2) 1);0:(add (@4) 2);0:7")
        for order in itertools.permutations(range(5)):
            told = saying(reordered(bodies, order))
            names = ["fff", "fff", "fff", "g", "h"]
            firsts = list(dict.fromkeys(names[place] for place in order))
            self.assertEqual(told, [firsts.index(names[place]) for place in order])

    def test_as_lists_and_as_tuples(self):
        for bodies in [ring_calling([1, 2, 1, 2]), line_calling(5), bodies_in("0:1;0:(#0k3f9a);0:1")]:
            self.assertEqual(saying(bodies), saying(tuple(bodies)))
            self.assertIs(type(saying(tuple(bodies))), list)

    def test_whatever_place_there_is(self):
        self.assertEqual(saying(ring_calling([1, 2, 3] * 20)), [0, 1, 2] * 20)

    def test_some_bodies_as_going_through_all_pairs_tells(self):
        chance = random.Random(7)
        merged = 0
        for _ in range(600):
            bodies = some_bodies(chance, chance.randint(1, 12), [MARK, "000000"], chance.choice([0.3, 0.6, 0.9]))
            told = saying(bodies)
            pairs = same_pairs(bodies)
            for one, other in itertools.product(range(len(bodies)), repeat=2):
                self.assertEqual(told[one] == told[other], (one, other) in pairs, bodies)
            self.assertEqual(list(dict.fromkeys(told)), list(range(max(told) + 1)), bodies)
            merged += max(told) + 1 < len(bodies)
        self.assertTrue(100 < merged < 590)

    def test_what_is_told_is_the_askers_own_and_what_is_handed_in_stays(self):
        bodies = ring_calling([1, 2, 1, 2])
        kept = copy.deepcopy(bodies)
        told = saying(bodies)
        told.append("told")
        told[0] = 5
        self.assertEqual(saying(bodies), [0, 1, 0, 1])
        self.assertEqual(bodies, kept)


if __name__ == "__main__":
    unittest.main()
