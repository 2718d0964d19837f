"""[18], of a Book: branches, and how they come together; [1] (d) and (g)."""

import itertools
import random
import unittest

from contentnames.book import Book
from contentnames.errors import Clash
from contentnames.house import House
from contentnames.merging import ITS, MINE, merged
from bookwork import EVEN, ODD, REFUSALS, BookTest, all_of, book_of, unwound
from samples import marks_told_by

# What a deed does to a name: it leads it to the mark of a number, or nowhere.
STEPS = ["", "1", "2", "3"]


def lead(book, name, number):
    """Leads the name to the content of this number, nowhere where there is none, as it is where it's so already."""
    known = dict(book.names())
    rows = [f"{name} = {number}"]
    if number == "" and name in known:
        book.drop(name)
    elif number and name in known:
        book.update(rows)
    elif number:
        book.tell(rows)


class TestBranch(BookTest):
    def test_a_branch(self):
        house, book = book_of([EVEN, ODD], "f = 1")
        branch = book.branch()
        self.assertIs(type(branch), Book)
        self.assertIsNot(branch, book)
        self.assertEqual(branch.names(), book.names())
        self.assertEqual((len(branch), len(book)), (0, 2))
        self.assertIs(branch.undo(), False)
        self.assertEqual(branch.names(), book.names())

    def test_of_the_same_house(self):
        house, book = book_of("f = 1")
        branch = book.branch()
        known = branch.tell(["g = 2"])[0][1]
        self.assertIs(house.has(known), True)
        book.give("h", known)
        self.assertEqual(book.rows("h"), ["h = 2"])

    def test_each_goes_on_by_itself(self):
        house, book = book_of("f = 1")
        branch = book.branch()
        branch.update(["f = 2"])
        book.tell(["g = 3"])
        self.assertEqual(book.rows("f"), ["f = 1"])
        self.assertEqual([name for name, _ in branch.names()], ["f"])
        self.assertEqual((len(book), len(branch)), (2, 1))
        book.undo()
        book.undo()
        self.assertEqual(branch.rows("f"), ["f = 2"])
        branch.undo()
        self.assertEqual((book.names(), branch.rows("f")), ([], ["f = 1"]))

    def test_of_an_empty_book(self):
        house, book = book_of()
        branch = book.branch()
        self.assertEqual(all_of(branch), (0, []))
        branch.tell(["f = 1"])
        self.assertEqual([name for name, _, _ in book.take_in(branch)], ["f"])


class TestTakeIn(BookTest):
    def setUp(self):
        self.house, self.book = book_of("f = 1", "g = 2", "h = 3")
        self.marks = {number: self.house.put(((0, ("num", number)),)) for number in range(10)}

    def test_nothing_was_done(self):
        branch = self.book.branch()
        kept = self.book.names()
        self.assertEqual(self.book.take_in(branch), [])
        self.assertEqual((self.book.names(), len(self.book)), (kept, 4))

    def test_what_the_branch_led(self):
        branch = self.book.branch()
        branch.update(["f = 4"])
        branch.drop("g")
        branch.tell(["k = 5"])
        one, two, four, five = [self.marks[number] for number in (1, 2, 4, 5)]
        told = self.book.take_in(branch)
        self.assertEqual(told, [("f", one, four), ("g", two, ""), ("k", "", five)])
        self.assertIs(type(told), list)
        self.assertEqual([type(change) for change in told], [tuple] * 3)
        self.assertEqual(self.book.names(), branch.names())
        self.assertEqual((len(self.book), len(branch)), (4, 3))

    def test_what_the_book_led_stays(self):
        branch = self.book.branch()
        self.book.update(["f = 4"])
        self.book.drop("g")
        self.book.tell(["k = 5"])
        kept = self.book.names()
        self.assertEqual(self.book.take_in(branch), [])
        self.assertEqual(self.book.names(), kept)
        self.assertEqual(len(self.book), 7)

    def test_what_both_led_alike(self):
        branch = self.book.branch()
        for book in [self.book, branch]:
            book.update(["f = 4"])
            book.drop("g")
            book.tell(["k = 5"])
        kept = self.book.names()
        self.assertEqual(self.book.take_in(branch), [])
        self.assertEqual(self.book.names(), kept)

    def test_both_led_other_names(self):
        branch = self.book.branch()
        self.book.update(["f = 4"])
        branch.update(["g = 5"])
        branch.tell(["k = 6"])
        self.book.drop("h")
        self.assertEqual(self.book.take_in(branch), [("g", self.marks[2], self.marks[5]), ("k", "", self.marks[6])])
        self.assertEqual(self.book.names(), [(name, self.marks[number]) for name, number in zip("fgk", [4, 5, 6])])

    def test_clash(self):
        branch = self.book.branch()
        self.book.update(["h = 4"])
        branch.update(["h = 5", "f = 6"])
        self.book.tell(["b = 7"])
        branch.tell(["b = 8", "c = 9"])
        self.book.drop("g")
        branch.update(["g = 0"])
        self.refused(self.house, self.book, Clash, ("b", "g", "h"), self.book.take_in, branch)
        self.refused(self.house, self.book, Clash, ("b", "g", "h"), self.book.take_in, branch, wins=None)
        with self.assertRaises(Clash) as caught:
            self.book.take_in(branch)
        self.assertIs(type(caught.exception.what), tuple)

    def test_wins(self):
        marks = self.marks
        for wins, told in [(MINE, [("c", "", marks[9]), ("f", marks[1], marks[6])]),
                           (ITS, [("b", marks[7], marks[8]), ("c", "", marks[9]), ("f", marks[1], marks[6]),
                                  ("g", "", marks[0]), ("h", marks[4], "")])]:
            house, book = book_of("f = 1", "g = 2", "h = 3")
            branch = book.branch()
            book.update(["h = 4"])
            branch.drop("h")
            branch.update(["f = 6"])
            book.tell(["b = 7"])
            branch.tell(["b = 8", "c = 9"])
            book.drop("g")
            branch.update(["g = 0"])
            ahead, its = dict(book.names()), branch.names()
            self.assertEqual(book.take_in(branch, wins=wins), told)
            if wins == ITS:
                self.assertEqual(book.names(), its)
            else:
                self.assertEqual(dict(book.names()), {**ahead, "c": marks[9], "f": marks[6]})
            self.assertEqual(len(book), 7)
            self.assertIs(book.undo(), True)
            self.assertEqual(dict(book.names()), ahead)
            self.assertEqual((branch.names(), len(branch)), (its, 4))

    def test_wins_where_none_clashes(self):
        for wins in [MINE, ITS, None]:
            house, book = book_of("f = 1", "g = 2")
            branch = book.branch()
            branch.update(["f = 4"])
            book.update(["g = 5"])
            self.assertEqual(book.take_in(branch, wins=wins), [("f", self.marks[1], self.marks[4])])
            self.assertEqual(book.names(), [("f", self.marks[4]), ("g", self.marks[5])])

    def test_every_way_of_one_name(self):
        for was, mine, its in itertools.product(STEPS, repeat=3):
            for wins in [None, MINE, ITS]:
                house, book = book_of("z = 7")
                lead(book, "f", was)
                branch = book.branch()
                lead(book, "f", mine)
                lead(branch, "f", its)
                base = [("f", self.marks[int(was)])] if was else []
                base.append(("z", self.marks[7]))
                pairs, clashes = merged(base, book.names(), branch.names())
                self.assertEqual(bool(clashes), mine != its and was not in (mine, its))
                ahead = book.names()
                if clashes and wins is None:
                    self.refused(house, book, Clash, ("f",), book.take_in, branch)
                    continue
                told = book.take_in(branch, wins=wins)
                behind = branch.names() if clashes and wins == ITS else pairs
                self.assertEqual(book.names(), behind)
                before, after = [dict(names).get("f", "") for names in (ahead, behind)]
                self.assertEqual(told, [("f", before, after)] if before != after else [])
                book.undo()
                self.assertEqual(book.names(), ahead)

    def test_leaning_names_come_along(self):
        house, book = book_of("f = 1", "g = ( add ( f ) 1 )", "h = 4")
        branch = book.branch()
        branch.update(["f = 2"])
        book.update(["h = 5"])
        book.take_in(branch)
        self.assertEqual(book.rows("g"), ["g = ( add ( f ) 1 )"])
        self.assertEqual(book.mark("g"), branch.mark("g"))

    def test_undone(self):
        branch = self.book.branch()
        branch.update(["f = 4"])
        kept = all_of(self.book)
        self.book.take_in(branch)
        self.assertEqual(unwound(self.book)[0], [(name, mark) for name, mark, *_ in kept[1]])
        self.assertIs(self.book.undo(), True)
        self.assertEqual(all_of(self.book), kept)
        # What was undone may be taken in again.
        self.assertEqual(self.book.take_in(branch), [("f", self.marks[1], self.marks[4])])

    def test_the_branch_stays(self):
        branch = self.book.branch()
        branch.update(["f = 4"])
        self.book.update(["g = 5"])
        kept = (all_of(branch), unwound(branch), marks_told_by(self.house))
        self.book.take_in(branch)
        self.book.drop("f")
        self.assertEqual((all_of(branch), unwound(branch), marks_told_by(self.house)), kept)


class TestBases(BookTest):
    def test_the_base_is_as_the_names_were_then(self):
        house, book = book_of("f = 1")
        branch = book.branch()
        book.update(["f = 2"])
        branch.update(["f = 3"])
        # Not as the book is now: both led f.
        self.refused(house, book, Clash, ("f",), book.take_in, branch)
        book.undo()
        self.assertEqual(len(book.take_in(branch)), 1)

    def test_the_base_stays_when_it_was_taken_in(self):
        house, book = book_of("f = 1")
        branch = book.branch()
        branch.update(["f = 2"])
        book.take_in(branch)
        self.assertEqual(book.take_in(branch), [])
        branch.update(["f = 3"])
        # By its base the branch led f from 1 to 3, the book from 1 to 2.
        self.refused(house, book, Clash, ("f",), book.take_in, branch)

    def test_undone_deeds_of_the_branch_do_not_come(self):
        house, book = book_of("f = 1")
        branch = book.branch()
        branch.update(["f = 2"])
        branch.tell(["g = 3"])
        branch.undo()
        branch.undo()
        self.assertEqual(book.take_in(branch), [])

    def test_a_like_of_the_branch_has_its_base(self):
        house, book = book_of("f = 1")
        branch = book.branch()
        branch.update(["f = 2"])
        like = branch.like()
        like.tell(["g = 3"])
        book.tell(["k = 4"])
        self.assertEqual([name for name, _, _ in book.like().take_in(like)], ["f", "g"])
        self.assertEqual([name for name, _, _ in book.take_in(like.like())], ["f", "g"])
        self.assertEqual([name for name, _ in book.names()], ["f", "g", "k"])

    def test_taken_in_by_a_like_of_the_book(self):
        house, book = book_of("f = 1")
        like = book.like()
        branch = book.branch()
        other = like.branch()
        branch.update(["f = 2"])
        other.tell(["g = 3"])
        self.assertEqual([name for name, _, _ in like.take_in(branch)], ["f"])
        self.assertEqual([name for name, _, _ in like.take_in(other)], ["g"])
        self.assertEqual([name for name, _, _ in book.take_in(other)], ["g"])
        self.assertEqual(book.take_in(like.branch()), [])
        self.assertEqual((book.rows("f"), like.rows("f")), (["f = 1"], ["f = 2"]))

    def test_a_branch_of_a_branch(self):
        house, book = book_of("f = 1", "g = 1")
        branch = book.branch()
        branch.update(["f = 2"])
        inner = branch.branch()
        inner.update(["g = 3"])
        # Its base is as the branch was then: of f it led nothing.
        other = book.like()
        self.assertEqual([name for name, _, _ in other.take_in(inner)], ["g"])
        self.assertEqual([name for name, _, _ in branch.take_in(inner)], ["g"])
        self.assertEqual([name for name, _, _ in book.take_in(branch)], ["f", "g"])
        self.assertEqual(book.names(), inner.names())

    def test_a_branch_of_a_like_of_a_branch(self):
        house, book = book_of("f = 1")
        inner = book.branch().like().branch()
        inner.tell(["g = 2"])
        self.assertEqual([name for name, _, _ in book.take_in(inner)], ["g"])

    def test_two_branches(self):
        house, book = book_of("f = 1", "g = 2")
        one, other = book.branch(), book.branch()
        one.update(["f = 3"])
        other.update(["g = 4"])
        other.tell(["h = 5"])
        one.tell(["h = 5"])
        self.assertEqual([name for name, _, _ in book.take_in(one)], ["f", "h"])
        self.assertEqual([name for name, _, _ in book.take_in(other)], ["g"])
        third = book.branch()
        third.update(["h = 6"])
        other.update(["h = 7"])
        self.assertEqual([name for name, _, _ in book.take_in(third)], ["h"])
        self.refused(house, book, Clash, ("h",), book.take_in, other)

    def test_of_two_branches_in_either_order(self):
        chance = random.Random(81)
        clashed = 0
        for _ in range(150):
            house, book = book_of("f = 1", "g = 2")
            branches = [book.branch(), book.branch()]
            for branch in branches:
                for _ in range(chance.randint(1, 3)):
                    lead(branch, chance.choice("fghk"), chance.choice(STEPS))
            told = []
            for order in [branches, branches[::-1]]:
                like = book.like()
                like.take_in(order[0])
                try:
                    like.take_in(order[1])
                    told.append(like.names())
                except Clash as refusal:
                    told.append(refusal.what)
            self.assertEqual(told[0], told[1])
            clashed += isinstance(told[0], tuple)
        self.assertTrue(20 < clashed < 130)

    def test_some_deeds_as_merged_tells(self):
        chance = random.Random(82)
        for _ in range(150):
            house, book = book_of("f = 1", "g = 2", "h = 3")
            book = chance.choice([book, book.like(), book.branch()])
            base, branch = book.names(), book.branch()
            branch = chance.choice([branch, branch.like()])
            for _ in range(chance.randint(0, 6)):
                lead(chance.choice([book, branch]), chance.choice("fghk"), chance.choice(STEPS))
            pairs, clashes = merged(base, book.names(), branch.names())
            wins = chance.choice([None, MINE, ITS])
            if clashes and wins is None:
                self.refused(house, book, Clash, tuple(clash[0] for clash in clashes), book.take_in, branch)
                continue
            ahead = dict(book.names())
            behind = dict(pairs)
            if wins == ITS:
                behind.update({name: its for name, _, _, its in clashes})
            told = book.take_in(branch, wins=wins)
            behind = {name: mark for name, mark in behind.items() if mark}
            self.assertEqual(dict(book.names()), behind)
            self.assertEqual(told, sorted((name, ahead.get(name, ""), behind.get(name, "")) for name in {**ahead, **behind}
                                          if ahead.get(name) != behind.get(name)))

    def test_behind_a_refusal_it_goes_on(self):
        house, book = book_of("f = 1")
        branch = book.branch()
        book.update(["f = 2"])
        branch.update(["f = 3"])
        with self.assertRaises(REFUSALS):
            book.take_in(branch)
        self.assertEqual(len(book.take_in(branch, wins=ITS)), 1)
        self.assertEqual(book.rows("f"), ["f = 3"])
        self.assertEqual(len(House()), 0)


if __name__ == "__main__":
    unittest.main()
