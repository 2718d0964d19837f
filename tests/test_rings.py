"""[9]: rings, and the contents of bodies; [1] (b)."""

import copy
import itertools
import random
import unittest

from contentnames.contents import content_text, is_content, mark_of, turned_to
from contentnames.errors import Unfit
from contentnames.rings import contents_of, rings_of
from samples import (MARK, NUM, bodies_in, content_of, line_calling, moved, numbered_from, reordered, ring_calling,
                     same_pairs, some_bodies, ways)

EVEN = "1:(if a (@{} (less a 1)) 1)"
ODD = "1:(if a (@{} (less a 1)) 0)"


def rings_by_all_pairs(bodies):
    """The rings, by the pairs of places of which one leads to the other."""
    led = ways(bodies)
    places = range(len(bodies))
    left = sorted({tuple(other for other in places if other == place or {(place, other), (other, place)} <= led)
                   for place in places})
    told = []
    while left:
        ahead = [place for ring in told for place in ring]
        ring = next(ring for ring in left
                    if all(other in ring or other in ahead for one, other in led if one in ring))
        left.remove(ring)
        told.append(list(ring))
    return told


def contents_by_all_pairs(bodies):
    """The contents, by going through all pairs."""
    contents = {}
    for ring in rings_by_all_pairs(bodies):
        def headed(place):
            if place in ring:
                return ("ring", ring.index(place))
            return ("call", mark_of(contents[place]))
        alone = [(bodies[place][0], moved(bodies[place][1], headed)) for place in ring]
        pairs = same_pairs(alone)
        least = [min(other for other in range(len(ring)) if (one, other) in pairs) for one in range(len(ring))]
        kept = sorted(set(least))
        single = [(alone[place][0], moved(alone[place][1], lambda old: ("ring", kept.index(least[old]))))
                  for place in kept]
        for at, place in enumerate(ring):
            contents[place] = numbered_from(single, kept.index(least[at]))
    return [contents[place] for place in range(len(bodies))]


class TestRingsOf(unittest.TestCase):
    def told(self, text, rings):
        self.assertEqual(rings_of(bodies_in(text)), rings, text)

    def test_alone(self):
        self.told("0:1", [[0]])
        self.told("0:(@0)", [[0]])
        self.told("0:(#0k3f9a)", [[0]])
        self.told("0:1;0:2;0:1", [[0], [1], [2]])
        self.told("0:(@0);0:(@1)", [[0], [1]])

    def test_one_that_leads_to_another(self):
        self.told("0:(@1);0:1", [[1], [0]])
        self.told("0:1;0:(@0)", [[0], [1]])
        self.assertEqual(rings_of(line_calling(6)), [[5], [4], [3], [2], [1], [0]])

    def test_two_that_lead_to_each_other(self):
        self.told("0:(@1);0:(@0)", [[0, 1]])
        self.told("0:(@1);0:(add (@0) (@1))", [[0, 1]])
        self.told("0:(@2);0:1;0:(@0)", [[0, 2], [1]])

    def test_a_ring_rises_whatever_way_it_leads(self):
        self.told("0:(@3);0:(@0);0:(@1);0:(@2)", [[0, 1, 2, 3]])
        self.assertEqual(rings_of(ring_calling([1, 2, 3, 4, 5])), [[0, 1, 2, 3, 4]])
        self.assertEqual(rings_of(ring_calling([1, 1, 1])), [[0, 1, 2]])

    def test_two_that_lead_to_each_other_by_two_ways(self):
        self.told("0:(add (@1) (@2));0:(@0);0:(@0)", [[0, 1, 2]])
        self.told("0:(add (@1) (@2));0:(@0);0:(@2)", [[2], [0, 1]])

    def test_rings_of_which_one_leads_into_the_other(self):
        self.told("0:(add (@1) (@2));0:(@0);0:(@3);0:(@2)", [[2, 3], [0, 1]])
        self.told("0:(@1);0:(@0);0:(add (@3) (@0));0:(@2)", [[0, 1], [2, 3]])
        self.told("0:(@3);0:(add (@2) (@0));0:(@1);0:(@0)", [[0, 3], [1, 2]])

    def test_calls_within_the_parts_of_calls_count(self):
        self.told("1:(@0 (@1 1));1:a", [[1], [0]])
        self.told("1:(#0k3f9a (@1 (@2 a)));1:(@0 a);1:(@2 1)", [[2], [0, 1]])
        self.told("1:(if 0 (@1 a) 1);1:(if 1 2 (@0 a))", [[0, 1]])

    def test_of_several_that_may_be_next_the_one_with_the_least_place(self):
        self.told("0:(@2);0:1;0:2;0:3", [[1], [2], [0], [3]])
        self.told("0:(@4);0:(@3);0:5;0:6;0:7", [[2], [3], [1], [4], [0]])
        self.told("0:(@3);0:(@2);0:(@1);0:4;0:5", [[1, 2], [3], [0], [4]])
        self.told("0:(@2);0:(@3);0:(@1);0:(@4);0:5;0:6", [[4], [3], [1], [2], [0], [5]])
        # A ring's least place counts, not the greatest, nor where it's met.
        self.told("0:(@5);0:2;0:3;0:(@4);0:(@3);0:(@0)", [[0, 5], [1], [2], [3, 4]])
        self.told("0:(@4);0:(@5);0:(@3);0:(@2);0:7;0:(@1)", [[1, 5], [2, 3], [4], [0]])

    def test_calls_by_marks_lead_nowhere(self):
        bodies = [(0, ("call", mark_of(((0, NUM),)), ())), (0, NUM)]
        self.assertEqual(rings_of(bodies), [[0], [1]])

    def test_sixty_bodies(self):
        self.assertEqual(rings_of(line_calling(60)), [[place] for place in range(59, -1, -1)])
        self.assertEqual(rings_of(ring_calling(range(60))), [list(range(60))])
        self.assertEqual(rings_of([(0, ("num", place)) for place in range(60)]), [[place] for place in range(60)])
        pairs = [(0, ("ring", place ^ 1, ())) for place in range(60)]
        self.assertEqual(rings_of(pairs), [[place, place + 1] for place in range(0, 60, 2)])

    def test_some_bodies_as_going_through_all_pairs_tells(self):
        chance = random.Random(11)
        for _ in range(400):
            bodies = some_bodies(chance, chance.randint(1, 9), [MARK], chance.choice([0.2, 0.3, 0.4, 0.6]))
            self.assertEqual(rings_of(bodies), rings_by_all_pairs(bodies), bodies)

    def test_as_lists_and_as_tuples(self):
        bodies = bodies_in("0:(@1);0:(@0);0:(@1)")
        self.assertEqual(rings_of(tuple(bodies)), rings_of(bodies))
        told = rings_of(tuple(bodies))
        self.assertIs(type(told), list)
        self.assertTrue(all(type(ring) is list for ring in told))

    def test_what_is_told_is_the_askers_own_and_what_is_handed_in_stays(self):
        bodies = bodies_in("0:(@1);0:(@0);0:(@1)")
        kept = copy.deepcopy(bodies)
        told = rings_of(bodies)
        told[0].append(7)
        told.pop()
        self.assertEqual(rings_of(bodies), [[0, 1], [2]])
        self.assertEqual(bodies, kept)


class TestUnfit(unittest.TestCase):
    def unfit(self, bodies, place):
        for tell in [rings_of, contents_of]:
            for handed in [list(bodies), tuple(bodies)]:
                with self.assertRaises(Unfit) as caught:
                    tell(handed)
                self.assertIs(type(caught.exception.what), int)
                self.assertEqual(caught.exception.what, place, bodies)

    def test_a_place_that_is_not_there(self):
        self.unfit(bodies_in("0:(@1)"), 0)
        self.unfit(bodies_in("0:1;0:(@2)"), 1)
        self.unfit(bodies_in("0:(@1);0:(@11);0:(@0)"), 1)
        for place in [-1, -2, -60, 3, 4, 60, 1000]:
            self.unfit([(0, NUM), (0, ("ring", place, ())), (0, NUM)], 1)
        self.unfit(line_calling(59) + [(0, ("ring", 60, ()))], 59)

    def test_more_or_fewer_parts(self):
        for many, handed in itertools.product(range(5), repeat=2):
            bodies = [(0, NUM), (many, NUM), (0, ("ring", 1, (NUM,) * handed))]
            if many == handed:
                self.assertEqual(rings_of(bodies), [[0], [1], [2]])
            else:
                self.unfit(bodies, 2)

    def test_a_call_of_itself(self):
        self.unfit(bodies_in("1:a;1:(@1)"), 1)
        self.unfit(bodies_in("1:a;0:(@1 1)"), 1)

    def test_the_first_place_of_several(self):
        self.unfit(bodies_in("0:(@1);0:(@2 1);0:(@0 1);0:(@9)"), 1)
        self.unfit(bodies_in("0:(@9);0:(@2 1)"), 0)
        # Where the call stands counts, not what it calls, nor how the rings would stand.
        self.unfit(bodies_in("1:(@1 a);1:(@2 a);1:(@0 a a);1:(@3)"), 2)
        self.unfit(bodies_in("0:(add (@1) (@3));0:(@0);0:(@3);0:(@0 1)"), 3)

    def test_deep_within_and_behind_one_that_fits(self):
        self.unfit(bodies_in("1:a;0:(add (@0 1) (if 1 (less (@0 (@0)) 2) 3))"), 1)
        self.unfit(bodies_in("1:a;1:(#0k3f9a (@0 (@7 1)))"), 1)
        self.unfit(bodies_in("1:a;1:(if 0 (@0 1) (@0 1 2))"), 1)

    def test_calls_by_marks_always_fit(self):
        self.assertEqual(rings_of(bodies_in("1:(#0k3f9a a a a a);0:(#0k3f9a)")), [[0], [1]])


class TestContentsOf(unittest.TestCase):
    def told(self, text, texts):
        self.assertEqual([content_text(content) for content in contents_of(bodies_in(text))], texts)

    def test_alone(self):
        for text in ["0:1", "2:(add a b)", "0:(@0)", "1:(@0 (@0 a))", "1:(#0k3f9a a)"]:
            self.told(text, [text])
        self.told("0:1;0:2;0:1", ["0:1", "0:2", "0:1"])
        self.told("0:7;1:(@1 a)", ["0:7", "1:(@0 a)"])

    def test_a_call_that_leads_out_is_one_of_the_mark(self):
        self.assertEqual(mark_of(content_of("0:1")), "09ds21")
        self.told("0:(add (@1) 2);0:1", ["0:(add (#09ds21) 2)", "0:1"])
        inner = mark_of(content_of("1:(@0 (#09ds21))"))
        self.told("0:(add (@2) (@1 5));1:(@1 (@2));0:1",
                  ["0:(add (#09ds21) (#" + inner + " 5))", "1:(@0 (#09ds21))", "0:1"])

    def test_its_parts_stay(self):
        inner = mark_of(content_of("2:(less a b)"))
        self.told("1:(@1 (@1 a 3) (@0 (@1 4 a)));2:(less a b)",
                  ["1:(#{0} (#{0} a 3) (@0 (#{0} 4 a)))".format(inner), "2:(less a b)"])

    def test_evens_and_odds(self):
        even = EVEN.format(1) + ";" + ODD.format(0)
        odd = ODD.format(1) + ";" + EVEN.format(0)
        self.told(";".join([EVEN.format(1), ODD.format(0)]), [even, odd])
        self.told(";".join([ODD.format(1), EVEN.format(0)]), [odd, even])
        # With a twin of each, in one ring and in two.
        self.told(";".join([EVEN.format(1), ODD.format(2), EVEN.format(3), ODD.format(0)]), [even, odd, even, odd])
        self.told(";".join([EVEN.format(3), ODD.format(2), EVEN.format(1), ODD.format(0)]), [even, odd, even, odd])

    def test_a_twin_that_is_not_of_the_ring(self):
        odd = ODD.format(1) + ";" + EVEN.format(0)
        told = contents_of(bodies_in(";".join([EVEN.format(1), ODD.format(0), EVEN.format(1)])))
        self.assertEqual(content_text(told[2]), "1:(if a (#" + mark_of(content_of(odd)) + " (less a 1)) 1)")
        self.assertNotEqual(told[0], told[2])

    def test_one_that_calls_itself_and_two_that_say_the_same(self):
        self.told(EVEN.format(0), [EVEN.format(0)])
        self.told(";".join([EVEN.format(1), EVEN.format(0), EVEN.format(2)]), [EVEN.format(0)] * 3)
        self.assertEqual(contents_of(ring_calling([4] * 12)), [content_of("0:(add 4 (@0))")] * 12)

    def test_one_that_leads_into_a_ring_that_goes_on_as_it_does(self):
        itself = mark_of(content_of("0:(@0)"))
        self.told("0:(@1);0:(@1)", ["0:(#" + itself + ")", "0:(@0)"])
        self.told("0:(@1);0:(@2);0:(@1)", ["0:(#" + itself + ")", "0:(@0)", "0:(@0)"])
        first = mark_of(content_of("0:(#" + itself + ")"))
        self.told("0:(@1);0:(@2);0:(@2)", ["0:(#" + first + ")", "0:(#" + itself + ")", "0:(@0)"])

    def test_two_rings_of_which_one_leads_into_the_other(self):
        odd = mark_of(content_of(ODD.format(1) + ";" + EVEN.format(0)))
        told = ["1:(add (@1 a) (#" + odd + " a));1:(less (@0 a) 1)",
                "1:(less (@1 a) 1);1:(add (@0 a) (#" + odd + " a))",
                EVEN.format(1) + ";" + ODD.format(0), ODD.format(1) + ";" + EVEN.format(0)]
        self.told(";".join(["1:(add (@1 a) (@3 a))", "1:(less (@0 a) 1)", EVEN.format(3), ODD.format(2)]), told)

    def test_alike_first_when_calls_that_lead_out_are_calls_of_marks(self):
        one = "0:(add (@0) (#09ds21))"
        self.told("0:(add (@1) (@2));0:(add (@0) (@3));0:1;0:1", [one, one, "0:1", "0:1"])
        self.told("0:(add (@1) (@2));0:(add (@0) (#09ds21));0:1", [one, one, "0:1"])
        self.told("0:(add (@1) (@2));0:(add (@0) (@3));0:1;0:2",
                  ["0:(add (@1) (#09ds21));0:(add (@0) (#{}))".format(mark_of(content_of("0:2"))),
                   "0:(add (@1) (#{}));0:(add (@0) (#09ds21))".format(mark_of(content_of("0:2"))), "0:1", "0:2"])

    def test_calls_by_marks_among_them(self):
        self.told("0:(#09ds21);0:(@2);0:1", ["0:(#09ds21)", "0:(#09ds21)", "0:1"])
        self.told("1:(@1 (#0k3f9a a));1:(#0k3f9b (@0 a))",
                  ["1:(@1 (#0k3f9a a));1:(#0k3f9b (@0 a))", "1:(#0k3f9b (@1 a));1:(@0 (#0k3f9a a))"])

    def test_numbered_from_each_place(self):
        self.told("0:(add (@2) (@1));0:(add 1 (@0));0:(add 2 (@0))",
                  ["0:(add (@1) (@2));0:(add 2 (@0));0:(add 1 (@0))",
                   "0:(add 1 (@1));0:(add (@2) (@0));0:(add 2 (@1))",
                   "0:(add 2 (@1));0:(add (@0) (@2));0:(add 1 (@1))"])

    def test_each_is_right_and_those_of_a_ring_are_turned(self):
        chance = random.Random(12)
        for _ in range(150):
            bodies = some_bodies(chance, chance.randint(1, 9), [MARK], chance.choice([0.3, 0.5, 0.8]))
            told = contents_of(bodies)
            for content in told:
                self.assertIs(is_content(content), True)
            for ring in rings_of(bodies):
                turned = [turned_to(told[ring[0]], place) for place in range(len(told[ring[0]]))]
                self.assertEqual(sorted(turned), sorted({told[place] for place in ring}))

    def test_some_bodies_as_going_through_all_pairs_tells(self):
        chance = random.Random(13)
        merged = 0
        for _ in range(300):
            bodies = some_bodies(chance, chance.randint(1, 8), [MARK, "09ds21"], chance.choice([0.3, 0.5, 0.8]))
            told = contents_of(bodies)
            self.assertEqual(told, contents_by_all_pairs(bodies), bodies)
            merged += len(set(told)) < len(bodies)
        self.assertTrue(merged > 30)

    def test_the_same_in_any_order_of_bodies(self):
        bodies = bodies_in("0:(add (@1) (@3));0:(add (@0) (@3));0:(less (@2) (@0));0:(@3);0:(add (@4) (#09ds21))")
        told = contents_of(bodies)
        for order in itertools.permutations(range(5)):
            self.assertEqual(contents_of(reordered(bodies, order)), [told[old] for old in order])
        chance = random.Random(14)
        for _ in range(150):
            bodies = some_bodies(chance, chance.randint(1, 12), [MARK], 0.5)
            told = contents_of(bodies)
            order = chance.sample(range(len(bodies)), len(bodies))
            self.assertEqual(contents_of(reordered(bodies, order)), [told[old] for old in order])

    def test_the_same_with_others_beside_that_they_do_not_call(self):
        chance = random.Random(15)
        for _ in range(150):
            bodies = some_bodies(chance, chance.randint(1, 8), [MARK], 0.4)
            told = contents_of(bodies)
            others = some_bodies(chance, len(bodies) + chance.randint(1, 8), [MARK], 0.5)[len(bodies):]
            fitting = [(many, moved(term, lambda place: ("call", MARK))) for many, term in others]
            calling = [(0, ("add", ("num", 7), ("ring", place, (NUM,) * many)))
                       for place, (many, _) in enumerate(bodies)]
            self.assertEqual(contents_of(bodies + fitting + calling)[:len(bodies)], told)

    def test_alone_as_with_all_that_it_calls(self):
        chance = random.Random(16)
        for _ in range(100):
            bodies = some_bodies(chance, chance.randint(2, 9), [MARK], 0.4)
            told = contents_of(bodies)
            for place in range(len(bodies)):
                self.assertEqual(contents_of(numbered_from(bodies, place))[0], told[place])

    def test_contents_told_again_tell_the_same(self):
        for text in ["0:1", "0:(@0)", "0:(add (@1) (@2));0:(add 1 (@0));0:(add 2 (@0))"]:
            content = content_of(text)
            self.assertEqual(contents_of(content), [turned_to(content, place) for place in range(len(content))])

    def test_sixty_bodies(self):
        told = contents_of(ring_calling(list(range(12)) * 5))
        self.assertEqual(told, [turned_to(tuple(ring_calling(range(12))), place % 12) for place in range(60)])
        told = contents_of(line_calling(60))
        self.assertEqual(told[59], content_of("0:1"))
        for place in range(59):
            self.assertEqual(told[place], ((0, ("call", mark_of(told[place + 1]), ())),))
        pairs = [(0, ("add", ("num", place // 4), ("ring", place ^ 1, ()))) for place in range(60)]
        self.assertEqual(contents_of(pairs), [((0, ("add", ("num", place // 4), ("ring", 0, ()))),)
                                              for place in range(60)])

    def test_a_ring_of_more_than_twelve(self):
        # Such a content is told, but it is not a right one.
        for many in [13, 60]:
            told = contents_of(ring_calling(range(many)))
            self.assertEqual(told[0], tuple(ring_calling(range(many))))
            self.assertEqual(told[1], tuple(ring_calling([*range(1, many), 0])))
            self.assertIs(is_content(told[0]), False)

    def test_as_lists_and_as_tuples(self):
        bodies = bodies_in("0:(@1);0:(add 1 (@0));0:(@1)")
        self.assertEqual(contents_of(tuple(bodies)), contents_of(bodies))
        self.assertIs(type(contents_of(tuple(bodies))), list)

    def test_what_is_told_is_the_askers_own_and_what_is_handed_in_stays(self):
        bodies = bodies_in("0:(@1);0:(add 1 (@0));0:(@1)")
        kept = copy.deepcopy(bodies)
        told = contents_of(bodies)
        again = list(told)
        told.reverse()
        told.append("told")
        self.assertEqual(contents_of(bodies), again)
        self.assertEqual(bodies, kept)


if __name__ == "__main__":
    unittest.main()
