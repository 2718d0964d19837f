"""[18], its first half: how names come together; [1] (d)."""

import copy
import itertools
import random
import unittest

from contentnames import merging
from contentnames.merging import ITS, MINE, merged, shows_merged
from samples import things, with_a_list

A, B, C = "aaaaaa", "bbbbbb", "cccccc"
# Where base, one and other lead a name, "" where nowhere, and where it is led then; with a clash or without one.
WAYS = [
    ("", "", "", "", False), (A, A, A, A, False), (A, "", "", "", False), ("", A, A, A, False), (A, B, B, B, False),
    (A, A, B, B, False), (A, B, A, B, False), (A, A, "", "", False), (A, "", A, "", False),
    ("", "", A, A, False), ("", A, "", A, False),
    ("", A, B, A, True), (A, "", B, "", True), (A, B, "", B, True), (A, B, C, B, True),
]


def lists_of(ways):
    """The three lists in which the names, in the order of ways, are led so."""
    names = ["n" + chr(97 + at // 26) + chr(97 + at % 26) for at in range(len(ways))]
    return [[(name, way[at]) for name, way in zip(names, ways) if way[at]] for at in range(3)]


def told_of(base, one, other):
    """What is told of three lists, by going through the names of each."""
    pairs, clashes = [], []
    for name in sorted({name for name, _ in [*base, *one, *other]}):
        was, mine, its = [next((mark for known, mark in led if known == name), "") for led in (base, one, other)]
        if mine == its or its == was:
            mark = mine
        elif mine == was:
            mark = its
        else:
            mark = mine
            clashes.append((name, was, mine, its))
        if mark:
            pairs.append((name, mark))
    return pairs, clashes


class TestMerged(unittest.TestCase):
    def test_words(self):
        self.assertEqual((MINE, ITS), ("mine", "its"))
        self.assertEqual((merging.MINE, merging.ITS), ("mine", "its"))

    def test_each_way(self):
        for was, mine, its, told, clashes in WAYS:
            lists = [[("f", mark)] if mark else [] for mark in (was, mine, its)]
            self.assertEqual(merged(*lists), ([("f", told)] if told else [], [("f", was, mine, its)] if clashes else []))

    def test_ways_are_all_there_are(self):
        alike = {tuple({mark: at for at, mark in reversed(list(enumerate(way[:3])))}[mark] if mark else None
                       for mark in way[:3]) for way in WAYS}
        every = {tuple({mark: at for at, mark in reversed(list(enumerate(way)))}[mark] if mark else None
                       for mark in way) for way in itertools.product(["", A, B, C], repeat=3)}
        self.assertEqual(alike, every)

    def test_the_two_the_other_way_about(self):
        for way in itertools.product(["", A, B, C], repeat=3):
            base, one, other = lists_of([way])
            pairs, clashes = merged(base, one, other)
            again, against = merged(base, other, one)
            self.assertEqual([(name, was, its, mine) for name, was, mine, its in clashes], against)
            if not clashes:
                self.assertEqual(pairs, again)
            else:
                self.assertEqual((pairs, again), (one, other))

    def test_all_ways_together(self):
        ways = list(itertools.product(["", A, B, C], repeat=3))
        base, one, other = lists_of(ways)
        told = merged(base, one, other)
        self.assertEqual(told, told_of(base, one, other))
        self.assertEqual(told[0], sorted(told[0]))
        self.assertEqual(told[1], sorted(told[1]))
        self.assertEqual(len(told[1]), sum(1 for was, mine, its in ways if mine != its and was not in (mine, its)))

    def test_what_is_told_is_a_pair_of_lists_of_tuples(self):
        told = merged([("f", A)], [("f", B), ("g", A)], [("f", C)])
        self.assertEqual(told, ([("f", B), ("g", A)], [("f", A, B, C)]))
        self.assertIs(type(told), tuple)
        self.assertEqual([type(part) for part in told], [list, list])
        self.assertEqual([type(thing) for part in told for thing in part], [tuple] * 3)

    def test_none_at_all(self):
        self.assertEqual(merged([], [], []), ([], []))
        self.assertEqual(merged((), (), ()), ([], []))

    def test_one_name_does_not_touch_another(self):
        self.assertEqual(merged([("f", A), ("g", A)], [("f", B), ("g", A)], [("f", A), ("g", B)]),
                         ([("f", B), ("g", B)], []))
        # Names may change their marks about.
        self.assertEqual(merged([("f", A), ("g", B)], [("f", B), ("g", A)], [("f", A), ("g", B)]),
                         ([("f", B), ("g", A)], []))

    def test_names_rise_whatever_list_they_are_of(self):
        self.assertEqual(merged([("z", A)], [("m", A), ("z", A)], [("b", A), ("q", B), ("z", A)]),
                         ([("b", A), ("m", A), ("q", B), ("z", A)], []))
        self.assertEqual(merged([], [("a", A), ("c", A), ("e", A)], [("a", B), ("d", A), ("e", B)]),
                         ([("a", A), ("c", A), ("d", A), ("e", A)], [("a", "", A, B), ("e", "", A, B)]))

    def test_some_lists_as_told_by_hand(self):
        chance = random.Random(51)
        for _ in range(300):
            lists = lists_of([[chance.choice(["", A, A, B, C]) for _ in range(3)] for _ in range(chance.randint(0, 12))])
            told = merged(*lists)
            self.assertEqual(told, told_of(*lists))
            self.assertIs(shows_merged(*lists, told), True)

    def test_lists_and_tuples(self):
        lists = [[("f", A), ("g", A)], [("f", B)], [("f", C), ("g", B), ("h", A)]]
        told = merged(*lists)
        for kinds in itertools.product([list, tuple], repeat=3):
            handed = [kind(led) for kind, led in zip(kinds, lists)]
            self.assertEqual(merged(*handed), told)
            self.assertIs(shows_merged(*handed, told), True)

    def test_nothing_is_changed_and_what_is_told_is_the_askers(self):
        lists = [[("f", A), ("g", A)], [("f", B)], [("f", C), ("g", B), ("h", A)]]
        kept = copy.deepcopy(lists)
        told = merged(*lists)
        again = copy.deepcopy(told)
        told[0].clear()
        told[1].append("changed")
        self.assertEqual(lists, kept)
        self.assertEqual(merged(*lists), again)

    def test_sixty_names(self):
        ways = (list(itertools.product(["", A, B, C], repeat=3)))[:60]
        lists = lists_of(ways)
        self.assertEqual(merged(*lists), told_of(*lists))


class TestShowsMerged(unittest.TestCase):
    def setUp(self):
        self.lists = lists_of([way[:3] for way in WAYS])
        self.told = merged(*self.lists)

    def shows(self, thing, told=False):
        self.assertIs(shows_merged(*self.lists, thing), told, thing)

    def test_just_what_merged_tells(self):
        self.shows(self.told, True)
        self.shows(copy.deepcopy(self.told), True)
        self.assertIs(shows_merged([], [], [], ([], [])), True)
        self.assertIs(shows_merged([], [], [], ([], [("f", "", "", "")])), False)
        self.assertIs(shows_merged([], [], [], ([("f", A)], [])), False)

    def test_something_otherwise_at_any_place(self):
        for at, part in enumerate(self.told):
            for place, thing in enumerate(part):
                for changed in [part[:place] + part[place + 1:], part[:place] + [thing] + part[place:],
                                part + [thing], part[::-1], [thing] + part, part[:place]]:
                    self.shows(self.told[:at] + (changed,) + self.told[at + 1:])
                for spot in range(len(thing)):
                    for word in ["", "f", A, B, "dddddd", thing[spot] + "0", None, 0, True, [thing[spot]],
                                 (thing[spot],)]:
                        if word != thing[spot]:
                            changed = part[:place] + [thing[:spot] + (word,) + thing[spot + 1:]] + part[place + 1:]
                            self.shows(self.told[:at] + (changed,) + self.told[at + 1:])
                for other in [thing[:-1], thing + ("",), list(thing), thing[::-1], (), None, thing[0]]:
                    changed = part[:place] + [other] + part[place + 1:]
                    self.shows(self.told[:at] + (changed,) + self.told[at + 1:])

    def test_another_order(self):
        pairs, clashes = self.told
        for at in range(len(pairs) - 1):
            self.shows((pairs[:at] + [pairs[at + 1], pairs[at]] + pairs[at + 2:], clashes))
        for at in range(len(clashes) - 1):
            self.shows((pairs, clashes[:at] + [clashes[at + 1], clashes[at]] + clashes[at + 2:]))
        self.shows((clashes, pairs))

    def test_a_list_for_a_tuple_and_a_tuple_for_a_list(self):
        pairs, clashes = self.told
        for thing in [list(self.told), (tuple(pairs), clashes), (pairs, tuple(clashes)), [pairs, clashes],
                      (tuple(pairs), tuple(clashes)), (pairs, clashes, []), (pairs,), (clashes,), pairs, clashes,
                      (dict(pairs), clashes)]:
            self.shows(thing)
        for at, part in enumerate(self.told):
            for place, thing in enumerate(part):
                for changed in with_a_list(thing):
                    self.shows(self.told[:at] + (part[:place] + [changed] + part[place + 1:],) + self.told[at + 1:])

    def test_things_of_any_kind(self):
        for thing in things() + [([], []), ([[]], []), "pairs", {}, (None, None), [[], []], ((), ())]:
            self.shows(thing)
            for at, part in enumerate(self.told):
                self.shows(self.told[:at] + (thing,) + self.told[at + 1:])
                self.shows(self.told[:at] + (part + [thing],) + self.told[at + 1:])
                self.shows(self.told[:at] + ([thing] + part[1:],) + self.told[at + 1:])

    def test_of_other_lists(self):
        base, one, other = self.lists
        self.assertIs(shows_merged(base, other, one, self.told), False)
        self.assertIs(shows_merged([], one, other, self.told), False)
        self.assertIs(shows_merged(base, one, [], self.told), False)

    def test_nothing_is_changed(self):
        kept = copy.deepcopy((self.lists, self.told))
        for _ in range(2):
            self.shows(self.told, True)
        self.assertEqual((self.lists, self.told), kept)


if __name__ == "__main__":
    unittest.main()
