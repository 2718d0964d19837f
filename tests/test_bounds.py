"""[3]: as much as the document bounds, in one test each; [1] (a) to (g) of much at once."""

import random
import unittest

from contentnames.book import Book
from contentnames.desk import Desk
from contentnames.errors import BadRow, BadText, TooLong
from contentnames.house import House
from contentnames.merging import ITS, merged, shows_merged
from contentnames.papers import paper_of, shows_value
from contentnames.rows import row_in, row_text
from contentnames.running import ran
from contentnames.sharing import parcel, pulled, unpacked
from contentnames.terms import size_of
from contentnames.termtext import term_in
from bookwork import REFUSALS, SlowBook, all_of, book_of, some_row, unwound
from samples import marks_told_by

NAMES = ["n" + chr(97 + at // 26) + chr(97 + at % 26) for at in range(60)]
TWELVE = [f"{name} x = ( if x ( {after} ( less x 1 ) ) {at} )"
          for at, (name, after) in enumerate(zip(NAMES[:12], NAMES[1:12] + NAMES[:1]))]


class TestBounds(unittest.TestCase):
    def test_a_house_of_three_hundred_contents(self):
        house, book = book_of(f"{NAMES[0]} = 1")
        for ahead, name in zip(NAMES, NAMES[1:]):
            book.tell([f"{name} = ( add 1 ( {ahead} ) )"])
        for number in range(2, 6):
            led, waits = book.update([f"{NAMES[0]} = {number}"])
            self.assertEqual(([name for name, _, _ in led], waits), (NAMES, []))
        self.assertEqual(len(house), 300)
        last = book.mark(NAMES[-1])
        self.assertEqual(ran(house, last, []), (64, 59 * 3 + 1))
        self.assertEqual(len(house.all_calls(last)), 59)
        self.assertEqual(len(parcel(house, house.marks())), 300)
        other = House()
        self.assertEqual(pulled(other, house, house.marks()), house.marks())
        self.assertEqual(other, house)
        self.assertEqual(pulled(other, house, house.marks()), [])

    def test_a_book_of_sixty_names_and_sixty_deeds(self):
        house, book = book_of(*[f"{name} x = ( add x {at} )" for at, name in enumerate(NAMES)])
        self.assertEqual((len(book), len(book.names())), (60, 60))
        branch, like = book.branch(), book.like()
        for at, name in enumerate(NAMES[:30]):
            branch.update([f"{name} x = ( less x {at} )"])
        for name in NAMES[30:]:
            book.drop(name)
        self.assertEqual(len(book), 90)
        self.assertEqual(len(book.take_in(branch, wins=ITS)), 30)
        pairs = merged(like.names(), like.names(), branch.names())
        self.assertIs(shows_merged(like.names(), like.names(), branch.names(), pairs), True)
        for many in range(91, 0, -1):
            self.assertEqual(len(book), many)
            self.assertIs(book.undo(), True)
        self.assertEqual((book.undo(), book.names(), len(like)), (False, [], 60))

    def test_a_ring_of_twelve(self):
        house, book = book_of(TWELVE)
        self.assertEqual(len(house.ring(book.mark(NAMES[0]))), 12)
        for at, name in enumerate(NAMES[:12]):
            rows = book.rows(name)
            self.assertEqual(len(rows), 12)
            other = Book(House())
            self.assertEqual(dict(other.tell(rows)), dict(book.names()))
            self.assertEqual(ran(house, book.mark(name), [25])[0], (at + 25) % 12)
        led, waits = book.update(["na x = x".replace("na", NAMES[3])])
        self.assertEqual((len(led), waits), (12, []))
        self.assertEqual(len(house.ring(book.mark(NAMES[0]))), 1)
        self.assertEqual(len(book.update([TWELVE[3]])[0]), 12)
        self.assertEqual(len(house), 24)

    def test_rows_of_two_hundred_signs(self):
        house, book = book_of("f x y z w = ( add ( add x y ) ( less z w ) )", "g = 1")
        rows = ["abcdefgh x y z w = ( f ( f x y z w ) ( f x x y y ) ( f w z y x ) ( f 1000002 1000001 ( if x y z ) "
                "( under ( times x y ) ( less ( add z w ) ( if ( times 1000002 ( add w 7777 ) ) 1000002 ( g ) ) ) ) ) )",
                # The deepest, the one with most calls, and the one with most terms.
                "h x = " + "( add x " * 7 + "x" + " )" * 7,
                "k = ( f " + " ".join("( f ( g ) ( g ) ( g ) ( g ) )" for _ in range(4)) + " )",
                "m x = ( f " + " ".join("( f x x x x )" for _ in range(4)) + " )"]
        self.assertEqual(len(rows[0]), 200)
        for text in rows:
            self.assertLessEqual(len(text), 200)
            name, many, draft = row_in(text)
            self.assertEqual(row_text(name, many, draft, args=["x", "y", "z", "w"]), text)
            self.assertEqual(book.tell([text])[0][0], name)
            self.assertEqual(book.rows(name), [row_text(name, many, draft)])

    def test_texts_of_two_thousand_signs(self):
        for text in ["(" * 2000, "( " * 1000, "( f " * 500, "(add 1 " * 285, "f = " + "( g " * 499, ")" * 2000,
                     "f " * 1000, "f = " + "1" * 1996, "tell " + "f = 1 ; " * 249, " " * 2000]:
            for read, refusal in [(term_in, BadText), (row_in, BadRow), (Desk().ask, BadRow)]:
                with self.assertRaises(refusal) as caught:
                    read(text)
                self.assertEqual(caught.exception.what, text)

    def test_terms_of_size_one_hundred_and_twenty(self):
        term = ("arg", 0)
        while size_of(term) < 60:
            term = ("add", term, ("num", 1)) if size_of(term) < 5 else ("less", term, term)
        house = House()
        mark = house.put(((1, term),))
        number, steps = ran(house, mark, [7])
        self.assertEqual(steps, size_of(term))
        self.assertIs(shows_value(house, mark, [7], number, paper_of(house, mark, [7])), True)

    def test_runs_of_five_thousand_steps(self):
        house, book = book_of("f x = ( if x ( add 1 ( f ( less x 1 ) ) ) 7 )")
        self.assertEqual(ran(house, book.mark("f"), [624], most=5000), (631, 4995))
        with self.assertRaises(TooLong):
            ran(house, book.mark("f"), [1000002], most=5000)
        paper = paper_of(house, book.mark("f"), [624], most=5000)
        self.assertEqual(len(paper), 625)
        self.assertIs(shows_value(house, book.mark("f"), [624], 631, paper), True)

    def test_papers_of_three_hundred_rows(self):
        house, book = book_of("f x = ( if x ( add ( f ( less x 1 ) ) ( f ( less x 1 ) ) ) 1 )", "g x = ( f x )")
        # Each needs the one ahead, twice over: nothing is run, so it's shown however long it would take.
        f, g = book.mark("f"), book.mark("g")
        paper = [(f, (number,), pow(2, number, 1000003)) for number in range(299)]
        paper.append((g, (298,), paper[-1][2]))
        self.assertEqual(len(paper), 300)
        self.assertIs(shows_value(house, g, [298], paper[-1][2], paper), True)
        self.assertIs(shows_value(house, g, [298], paper[-1][2], paper[:100] + paper[101:]), False)

    def test_a_desks_run_of_sixty_rows(self):
        desk = Desk(most=5000)
        rows = []
        for at, name in enumerate(NAMES[:20]):
            rows += [f"tell {name} x = ( if x ( {name} ( less x 1 ) ) {at} )", f"update {name} x = ( add x {at} )",
                     f"run {name} 1"]
        self.assertEqual(len(rows), 60)
        told = desk.run(rows)
        self.assertEqual(told[2::3], [f"{at + 1} 3" for at in range(20)])
        self.assertEqual(len(desk.house()), 0)
        self.assertEqual(desk.run(rows, keep=True), told)
        self.assertEqual((len(desk.house()), len(desk.book())), (40, 40))

    def test_hundreds_of_rows_that_are_done_again(self):
        desk = Desk(most=5000)
        desk.ask("tell f x = ( if x ( f ( less x 1 ) ) 7 ) ; g = 1 ; h = ( add ( g ) ( f 3 ) )")
        ahead = (marks_told_by(desk.house()), all_of(desk.book()), unwound(desk.book()))
        rows = []
        for number in range(14):
            rows += [f"update g = {number + 2}", "run f 832", "run h", "size"]
        rows = rows + ["again 56", "again 57", "again 58", "names"]
        told = desk.run(rows, deep=4)
        self.assertEqual(told[-4:-1], ["56", "57", "58"])
        # Each again does all that is ahead of it, with the again rows there: twice as much as the one ahead, and 1.
        done = sum(many for word, many in desk.log() if word == "end")
        self.assertEqual(done, 60 + 56 + (57 + 56) + (58 + 56 + 57 + 56))
        self.assertEqual([told[at] for at in (1, 2)], ["7 4995", "9 26"])
        self.assertEqual((marks_told_by(desk.house()), all_of(desk.book()), unwound(desk.book())), ahead)

    def test_much_that_is_done_to_a_book_of_many_names(self):
        chance = random.Random(121)
        house, book = book_of()
        slow = SlowBook()
        pool = NAMES[:24]
        for _ in range(60):
            known = dict(book.names())
            manies = {name: house.content(mark)[0][0] for name, mark in known.items()}
            names = chance.sample(pool, chance.randint(1, 4))
            names = [name for name in names if (name in known) == (names[0] in known)]
            heads = {name: chance.choice([manies.get(name, 0), 0, 1]) for name in names}
            rows = [some_row(chance, name, {**manies, **heads}, {}, heads[name]) for name in names]
            told = []
            for asked in [book, slow]:
                try:
                    told.append((asked.update if names[0] in known else asked.tell)(rows))
                except REFUSALS as refusal:
                    told.append((type(refusal), refusal.what))
            self.assertEqual(told[0], told[1])
        self.assertGreater(len(book.names()), 15)
        other = House()
        told = unpacked(other, parcel(house, [mark for _, mark in book.names()]))
        self.assertEqual([other.content(mark) for mark in told], [house.content(mark) for mark in told])


if __name__ == "__main__":
    unittest.main()
