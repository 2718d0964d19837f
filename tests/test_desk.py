"""[21]: a desk; [1] (h)."""

import random
import unittest

from contentnames import desk as desk_file
from contentnames.book import Book
from contentnames.desk import DEEP, Desk
from contentnames.errors import (BadCall, BadRow, Busy, Known, Nameless, NoMark, NoName, Taken, TooLong, Torn, Twice)
from contentnames.house import House
from contentnames.running import ran
from bookwork import EVEN, ODD, ONE, all_of, unwound
from samples import forged, marks_told_by

BOTH = f"{EVEN} ; {ODD}"
# A row for each refusal that a desk of state() can come to, and what is refused.
REFUSED = [
    ("tell f =", BadRow, "tell f ="), ("", BadRow, ""), ("again 0", BadRow, "again 0"), ("f = 1", BadRow, "f = 1"),
    ("tell g = 1 ; g = 2", Twice, "g"), ("tell one = 2", Known, "one"), ("tell g = ( no )", NoName, "no"),
    ("tell g = ( #zzzzzz )", NoMark, "zzzzzz"), ("tell g = ( one 1 )", BadCall, "g"),
    ("update no = 1", NoName, "no"), ("update one = 1 ; uno = 2", Torn, ONE), ("update one = ( inc )", BadCall, "one"),
    ("give one #09ds21", Known, "one"), ("give g #zzzzzz", NoMark, "zzzzzz"), ("drop no", NoName, "no"),
    ("mark no", NoName, "no"), ("rows no", NoName, "no"), ("calls no", NoName, "no"), ("leans no", NoName, "no"),
    ("run no", NoName, "no"), ("run one 1", BadCall, ONE), ("run never", TooLong, 50),
]


def state():
    """A desk with some names, of which the runs take 50 steps at most."""
    desk = Desk(most=50)
    for row in ["tell one = 1", "tell inc x = ( add x ( one ) ) ; never = ( never )", "tell uno = 1", f"tell {BOTH}"]:
        desk.ask(row)
    return desk


def told_by(desk):
    """All that a desk tells, but its log."""
    return desk.is_open(), marks_told_by(desk.house()), all_of(desk.book()), unwound(desk.book()), desk.ask("size")


class DeskTest(unittest.TestCase):
    def refused(self, desk, refusal, what, do, *handed, **more):
        """Do is refused by this refusal alone; all but the log is as ahead of it."""
        kept = told_by(desk)
        for _ in range(2):
            with self.assertRaises(refusal) as caught:
                do(*handed, **more)
            self.assertIs(type(caught.exception), refusal)
            self.assertEqual(caught.exception.what, what)
            self.assertEqual(told_by(desk), kept)
            self.assertIs(desk.is_open(), True)

    def asks(self, desk, *pairs):
        for row, told in pairs:
            self.assertEqual(desk.ask(row), told, row)


class TestAsk(DeskTest):
    def test_a_new_desk(self):
        desk = Desk()
        self.asks(desk, ("names", "-"), ("size", "0"), ("undo", "none"), ("names #09ds21", "-"))
        self.assertEqual((desk.is_open(), desk.log(), len(desk.house()), len(desk.book())), (True, [], 0, 0))

    def test_tell(self):
        desk = Desk()
        self.asks(desk, ("tell f = 1", "f#" + ONE), ("tell h = 1 ; g = 1", f"h#{ONE} g#{ONE}"))
        text = desk.ask(f"tell {BOTH}")
        self.assertEqual(text, " ".join(name + "#" + desk.book().mark(name) for name in ["even", "odd"]))

    def test_update(self):
        desk = Desk()
        desk.ask("tell f x = x ; g = ( f 1 ) ; h = ( g ) ; k = 3 ; m = ( k )")
        ahead = dict(desk.book().names())
        text = desk.ask("update f x y = y ; k = 4")
        behind = dict(desk.book().names())
        self.assertEqual(text, f"f#{ahead['f']}#{behind['f']} k#{ahead['k']}#{behind['k']} m#{ahead['m']}#{behind['m']} "
                               f"g:parts:f h:leans:{ahead['g']}")
        self.asks(desk, ("update k = 4", "-"))
        desk.ask("tell p x = ( add x 7 ) ; q = ( p 1 )")
        p = desk.book().mark("p")
        desk.ask("update p x = ( add x 1 )")
        desk.ask("undo")
        self.assertEqual(desk.ask("update p = 2"), f"p#{p}#{desk.book().mark('p')} q:parts:p")
        # What g calls is what f led to once: it waits for any name that leads there.
        desk.ask("tell r x = x")
        self.assertEqual(desk.ask("update r = 5"), f"r#{ahead['f']}#{desk.book().mark('r')} g:parts:r h:leans:{ahead['g']}")

    def test_update_that_leads_nothing_but_has_what_waits(self):
        # The row says what it said, by fewer arguments than there were; so what calls it waits.
        desk = Desk()
        desk.ask("tell f x = 1 ; g = ( f 1 )")
        f = desk.book().mark("f")
        self.assertEqual(desk.ask("update f = 1"), f"f#{f}#{ONE} g:parts:f")

    def test_give_drop_undo(self):
        desk = Desk()
        desk.ask("tell f = 1")
        self.asks(desk, ("give g #" + ONE, "done"), ("names", f"f#{ONE} g#{ONE}"), ("drop f", "done"),
                  ("names", f"g#{ONE}"), ("undo", "done"), ("names", f"f#{ONE} g#{ONE}"), ("undo", "done"),
                  ("undo", "done"), ("names", "-"), ("undo", "none"), ("undo", "none"), ("size", "1"),
                  ("give h #" + ONE, "done"), ("mark h", ONE))

    def test_mark_and_names(self):
        desk = Desk()
        desk.ask("tell z = 1 ; a = 1 ; f = 2")
        two = desk.book().mark("f")
        self.asks(desk, ("mark z", ONE), ("mark f", two), ("names", f"a#{ONE} f#{two} z#{ONE}"),
                  (f"names #{ONE}", "a z"), (f"names #{two}", "f"), ("names #zzzzzz", "-"))
        desk.ask("drop f")
        self.asks(desk, (f"names #{two}", "-"))

    def test_rows(self):
        desk = Desk()
        desk.ask(f"tell {BOTH}")
        desk.ask("tell f = 1")
        even, odd = "even a = ( if a ( odd ( less a 1 ) ) 1 )", "odd a = ( if a ( even ( less a 1 ) ) 0 )"
        self.asks(desk, ("rows f", "f = 1"), ("rows even", f"{even} ; {odd}"), ("rows odd", f"{odd} ; {even}"))
        # Told to another desk they lead to the same marks.
        other = Desk()
        other.ask("tell " + desk.ask("rows odd"))
        self.assertEqual(other.book().names(), [pair for pair in desk.book().names() if pair[0] != "f"])

    def test_calls_and_leans(self):
        desk = Desk()
        desk.ask("tell f = 1 ; g = ( f ) ; h = ( add ( f ) ( g ) )")
        desk.ask(f"tell {BOTH}")
        f, g, h, even, odd = [desk.book().mark(name) for name in ["f", "g", "h", "even", "odd"]]
        self.asks(desk, ("calls f", "-"), ("calls g", f), ("calls h", " ".join(sorted([f, g]))), ("calls even", odd),
                  ("leans f", " ".join(sorted([g, h]))), ("leans g", h), ("leans h", "-"), ("leans even", odd))

    def test_size(self):
        desk = Desk()
        for many, row in enumerate(["tell f = 1", "tell g = 2", "update f = 3", "tell p = 4 ; q = 5"], 1):
            desk.ask(row)
            self.asks(desk, ("size", str(many + (many == 4))))
        desk.ask("undo")
        self.asks(desk, ("size", "5"))

    def test_run(self):
        desk = Desk()
        desk.ask(f"tell {BOTH} ; f = 7 ; g x y z w = ( less ( add x y ) ( add z w ) )")
        self.asks(desk, ("run f", "7 1"), ("run even 10", "1 63"), ("run odd 10", "0 63"), ("run g 9 8 7 6", "4 7"),
                  ("run g 0 0 0 1", "1000002 7"))

    def test_most(self):
        desk = Desk(most=9)
        desk.ask(f"tell {BOTH}")
        self.asks(desk, ("run even 1", "0 9"))
        self.refused(desk, TooLong, 9, desk.ask, "run even 2")
        self.refused(Desk(most=0), NoName, "f", Desk(most=0).ask, "run f")
        desk = Desk()
        desk.ask(f"tell {BOTH}")
        self.asks(desk, ("run even 166", "1 999"))
        self.refused(desk, TooLong, 1000, desk.ask, "run even 167")
        desk = Desk(most=5000)
        desk.ask(f"tell {BOTH}")
        self.asks(desk, ("run even 832", "1 4995"))
        self.refused(desk, TooLong, 5000, desk.ask, "run even 833")

    def test_refused(self):
        desk = state()
        for row, refusal, what in REFUSED:
            self.refused(desk, refusal, what, desk.ask, row)
        self.assertEqual(desk.log(), [])

    def test_again_is_refused(self):
        desk = state()
        for row in ["again 1", "again 60"]:
            self.refused(desk, BadRow, row, desk.ask, row)

    def test_rows_refused_where_no_name_leads(self):
        desk = state()
        desk.ask("drop odd")
        book = desk.book()
        odd = desk.house().ring(book.mark("even"))[1]
        self.refused(desk, Nameless, odd, desk.ask, "rows even")

    def test_taken(self):
        desk = Desk()
        content = forged(ONE)[0][1]
        desk.ask(f"tell f = ( add {content[1][1]} {content[2][1]} )")
        self.refused(desk, Taken, ONE, desk.ask, "tell g = 1")
        self.refused(desk, Taken, ONE, desk.run, ["size", "tell g = 1"])

    def test_update_too_long(self):
        desk = Desk()
        names = ["n" + chr(97 + at) for at in range(13)]
        desk.ask("tell na = 1")
        for ahead, name in zip(names, names[1:]):
            desk.ask(f"tell {name} = ( add 1 ( {ahead} ) )")
        self.refused(desk, TooLong, 12, desk.ask, f"update na = ( {names[-1]} )")
        self.refused(desk, TooLong, 12, desk.run, [f"update na = ( {names[-1]} )"], keep=True)


class TestRun(DeskTest):
    def test_deep(self):
        self.assertEqual(DEEP, 2)
        self.assertEqual(desk_file.DEEP, 2)

    def test_texts_of_the_rows(self):
        rows = ["tell one = 1", "run one", "names", "undo", "names", "undo", "size"]
        one, other = Desk(), Desk()
        told = one.run(rows)
        self.assertEqual(told, ["one#" + ONE, "1 1", "one#" + ONE, "done", "-", "none", "1"])
        self.assertIs(type(told), list)
        self.assertEqual(told, [other.ask(row) for row in rows])
        self.assertEqual(Desk().run(tuple(rows)), told)
        self.assertEqual(rows[-1], "size")

    def test_of_no_rows(self):
        desk = state()
        kept = told_by(desk)
        for keep in [False, True]:
            self.assertEqual(desk.run([], keep=keep), [])
            self.assertEqual(desk.run((), keep=keep), [])
        self.assertEqual(desk.log(), [("begin", 0), ("end", 0)] * 4)
        self.assertEqual(told_by(desk), kept)

    def test_not_kept(self):
        desk = state()
        kept = told_by(desk)
        rows = ["tell g = 9", "update one = 2", "drop even", "undo", "undo", "undo", "undo", "undo", "size", "names"]
        for more in [{}, {"keep": False}, {"deep": 1}, {"keep": False, "deep": 4}]:
            told = desk.run(rows, **more)
            self.assertEqual(told[-2], "8")
            # Contents too are taken back, and the deeds that were undone stand again.
            self.assertEqual(told_by(desk), kept)

    def test_kept(self):
        rows = ["tell g = 9", "update one = 2", "drop even", "undo", "size", "run g"]
        desk, other = state(), state()
        told = desk.run(rows, keep=True)
        self.assertEqual(told, [other.ask(row) for row in rows])
        self.assertEqual(told_by(desk), told_by(other))
        self.assertEqual(desk.ask("undo"), "done")
        self.assertEqual(desk.log(), [("begin", 6), ("end", 6)])

    def test_what_was_not_kept_may_be_told_again(self):
        desk = Desk()
        for _ in range(3):
            self.assertEqual(desk.run(["size", "tell f = 1"]), ["0", "f#" + ONE])
        self.assertEqual(desk.run(["size", "tell f = 1"], keep=True), ["0", "f#" + ONE])
        self.refused(desk, Known, "f", desk.run, ["tell f = 1"])

    def test_refused_at_any_row(self):
        rows = ["tell g = 9", "size", "update inc x = ( add x 2 )", "drop uno", "undo", "undo"]
        for row, refusal, what in REFUSED:
            for at in [0, 1, 2, len(rows)]:
                # g is the rows' own then.
                if at and "tell g =" in row or at and row.startswith("give g"):
                    continue
                for keep in [False, True]:
                    desk = state()
                    self.refused(desk, refusal, what, desk.run, rows[:at] + [row] + rows[at:], keep=keep)
                    self.assertEqual(desk.log(), [("begin", 7), ("end", at)] * 2)

    def test_rows_are_read_as_their_turn_comes(self):
        desk = state()
        self.refused(desk, Known, "one", desk.run, ["size", "tell one = 1", "no row"])
        self.refused(desk, BadRow, "no row", desk.run, ["size", "no row", "tell one = 1"])
        self.assertEqual(desk.log(), [("begin", 3), ("end", 1)] * 4)

    def test_what_a_refused_run_did_is_taken_back_whatever_it_was(self):
        desk = state()
        rows = ["tell g = 9", "tell h = ( g )", "update g = 8", "give k #" + ONE, "drop one", "undo", "undo", "undo", "drop uno"]
        for many in range(len(rows) + 1):
            for keep in [False, True]:
                self.refused(desk, NoName, "no", desk.run, rows[:many] + ["mark no"], keep=keep)

    def test_one_run_behind_the_other(self):
        desk = Desk()
        desk.run(["tell f = 1"], keep=True)
        desk.run(["tell g = 2"])
        with self.assertRaises(NoName):
            desk.run(["tell h = 3", "mark g"], keep=True)
        desk.run(["tell k = 4"], keep=True)
        self.asks(desk, ("size", "2"), ("names", f"f#{ONE} k#{desk.book().mark('k')}"))
        self.assertEqual(desk.log(), [("begin", 1), ("end", 1)] * 2 + [("begin", 2), ("end", 1), ("begin", 1), ("end", 1)])


    def test_it_is_not_open_in_the_midst(self):
        class Watched(list):
            """Rows that ask the desk, each ahead of its turn, whether it's open."""

            def __iter__(self):
                for row in list.__iter__(self):
                    seen.append(desk.is_open())
                    yield row

        desk, seen = state(), []
        self.assertEqual(desk.run(Watched(["size", "names #zzzzzz"])), ["5", "-"])
        with self.assertRaises(NoName):
            desk.run(Watched(["size", "mark no", "size"]), keep=True)
        self.assertEqual(seen, [False] * 4)
        self.assertIs(desk.is_open(), True)


class TestAgain(DeskTest):
    def test_rows_ahead(self):
        desk = state()
        self.assertEqual(desk.run(["names", "update one = ( inc 1 )", "again 1"])[2], "1")
        nine = desk.run(["tell g = 9"])[0]
        self.assertEqual(desk.run(["size", "tell g = 9", "drop g", "again 2", "size"]), ["5", nine, "done", "2", "6"])
        self.assertEqual(desk.run(["undo", "undo", "again 2", "undo", "size"]), ["done", "done", "2", "none", "5"])

    def test_what_it_does_is_the_outer_runs(self):
        for keep in [False, True]:
            desk = state()
            kept = told_by(desk)
            many = desk.book().names()
            told = desk.run(["drop uno", "tell uno = 5", "undo", "again 1"], keep=keep)
            # Of the five deeds the four of state() are left, less one, and the one dropped stands or not.
            self.assertEqual(told[2:], ["done", "1"])
            if keep:
                self.assertEqual(desk.book().names(), many)
                self.assertEqual(len(desk.house()), 6)
                self.assertEqual(len(desk.book()), 4)
            else:
                self.assertEqual(told_by(desk), kept)

    def test_of_again_rows(self):
        desk = Desk()
        desk.ask("tell f = 1")
        rows = ["size", "again 1", "again 2"]
        # The third does the first two: so the second again, which does the first.
        self.assertEqual(desk.run(rows, deep=3), ["1", "1", "2"])
        self.assertEqual(desk.log(), [
            ("begin", 3), ("begin", 1), ("end", 1), ("begin", 2), ("begin", 1), ("end", 1), ("end", 2), ("end", 3)])
        self.refused(desk, Busy, 2, desk.run, rows)
        self.assertEqual(desk.log()[8:18], [
            ("begin", 3), ("begin", 1), ("end", 1), ("begin", 2), ("end", 1), ("end", 2)] + [
            ("begin", 3), ("begin", 1), ("end", 1), ("begin", 2)])

    def test_of_more_than_are_ahead(self):
        desk = state()
        self.refused(desk, BadRow, "again 1", desk.run, ["again 1"])
        self.refused(desk, BadRow, "again 2", desk.run, ["size", "again 2"], keep=True)
        self.refused(desk, BadRow, "again 60", desk.run, ["size"] * 59 + ["again 60"])
        self.assertEqual(desk.run(["size"] * 60 + ["again 60"]), ["5"] * 60 + ["60"])
        # A run within has its own rows ahead alone.
        self.refused(desk, BadRow, "again 2", desk.run, ["size", "size", "again 2", "again 1"], deep=4)
        self.refused(desk, BadRow, "again 2", desk.run, ["size", "size", "again 2", "again 2"], deep=4)
        self.assertEqual(desk.run(["size", "size", "again 2", "again 3"], deep=3), ["5", "5", "2", "3"])

    def test_bad_row_ahead_of_busy(self):
        desk = state()
        self.refused(desk, BadRow, "again 1", desk.run, ["again 1"], deep=1)
        self.refused(desk, BadRow, "again 3", desk.run, ["size", "again 3"], deep=1)
        self.refused(desk, Busy, 1, desk.run, ["size", "again 1"], deep=1)
        # Within the run within it's bad, though that run is the last that may be.
        self.refused(desk, BadRow, "again 1", desk.run, ["size", "again 1", "again 1"], deep=2)
        self.refused(desk, BadRow, "again 61", desk.run, ["size"] * 61 + ["again 61"])

    def test_deep_one_to_four(self):
        rows = ["size", "again 1", "again 2", "again 3", "again 4"]
        for deep in range(1, 5):
            desk = Desk()
            # As many again rows as may be within one another.
            self.assertEqual(desk.run(rows[:deep], deep=deep), ["0", "1", "2", "3"][:deep])
            self.assertEqual(len([word for word, _ in desk.log() if word == "begin"]), 2 ** (deep - 1))
            self.refused(desk, Busy, deep, desk.run, rows[:deep + 1], deep=deep)
            self.refused(desk, Busy, deep, desk.run, rows[:deep + 1], deep=deep, keep=True)

    def test_runs_side_by_side_are_not_within_one_another(self):
        desk = Desk()
        self.assertEqual(desk.run(["size", "again 1", "size", "again 1", "size", "again 1"]),
                         ["0", "1", "0", "1", "0", "1"])
        self.assertEqual(len(desk.log()), 8)

    def test_refused_within_a_run_within(self):
        for row, refusal, what in REFUSED:
            desk = state()
            if row == "run never":
                self.refused(desk, refusal, what, desk.run, ["size", row, "again 1"])
        desk = state()
        # Once each row is done, and not a second time.
        for rows, refusal, what in [(["tell g = 9", "again 1"], Known, "g"), (["drop uno", "again 1"], NoName, "uno"),
                                    (["give g #" + ONE, "again 1"], Known, "g"),
                                    (["drop odd", "undo", "update inc = 1", "again 1", "run inc", "tell h = ( inc )", "again 1"],
                                     Known, "h")]:
            for keep in [False, True]:
                self.refused(desk, refusal, what, desk.run, rows, keep=keep)
        desk = state()
        self.refused(desk, Known, "g", desk.run, ["size", "tell g = 9", "size", "again 3", "size"], keep=True)
        self.assertEqual(desk.log(), [("begin", 5), ("begin", 3), ("end", 1), ("end", 3)] * 2)

    def test_refused_in_the_innermost(self):
        desk = Desk()
        desk.ask("tell f = 1 ; k = 1")
        rows = ["size", "update f = ( k )", "again 2", "drop k", "again 4"]
        # The last again does all four ahead, the third of which is again 2; k is dropped twice.
        self.refused(desk, NoName, "k", desk.run, rows, deep=3)
        self.assertEqual(desk.log()[:7], [("begin", 5), ("begin", 2), ("end", 2), ("begin", 4), ("end", 1), ("end", 4),
                                          ("begin", 5)])
        self.assertIs(desk.is_open(), True)

    def test_each_is_done_as_often_as_it_is_told(self):
        desk = Desk()
        desk.ask("tell n = 0")
        rows = ["drop n", "tell n = 1", "undo", "undo"]
        self.assertEqual(desk.run(rows + ["again 4", "size"])[-2:], ["4", "2"])
        desk = Desk()
        desk.ask("tell inc x = ( add x 1 ) ; n = 0")
        # Each update has n lead to one more than what it led to, by its mark, which is told by none.
        mark = desk.book().mark("n")
        rows = [f"give m #{mark}", "drop n", "tell n = ( inc ( m ) )", "drop m"]
        self.assertEqual(desk.run(rows + ["run n"]), ["done", "done", desk.run(rows)[2], "done", "1 6"])


class TestLog(DeskTest):
    def test_what_is_told_is_the_askers(self):
        desk = Desk()
        desk.run(["size", "size"])
        told = desk.log()
        self.assertEqual(told, [("begin", 2), ("end", 2)])
        self.assertIs(type(told), list)
        self.assertEqual([type(row) for row in told], [tuple] * 2)
        told.clear()
        self.assertEqual(desk.log(), [("begin", 2), ("end", 2)])
        texts = desk.run(["names", "size"])
        texts.clear()
        self.assertEqual(desk.run(["names", "size"]), ["-", "0"])

    def test_asking_is_no_run(self):
        desk = state()
        desk.ask("size")
        self.assertEqual(desk.log(), [])
        self.assertIs(desk.is_open(), True)

    def test_it_is_not_taken_back(self):
        desk = Desk()
        desk.run(["tell f = 1"])
        desk.run(["tell f = 1"], keep=True)
        with self.assertRaises(Known):
            desk.run(["size", "tell f = 1"])
        self.assertEqual(desk.log(), [("begin", 1), ("end", 1)] * 2 + [("begin", 2), ("end", 1)])

    def test_it_has_both_ends_whatever_is_refused(self):
        chance = random.Random(111)
        desk = state()
        kept = told_by(desk)
        pool = ["size", "names", "again 1", "again 2", "again 3", "drop uno", "undo", "tell g = 9", "update one = 4",
                "run inc 3"] + [row for row, _, _ in REFUSED]
        refusals = set()
        for _ in range(300):
            ahead = len(desk.log())
            rows = [chance.choice(pool[:10] if chance.random() < 0.9 else pool) for _ in range(chance.randint(1, 8))]
            try:
                desk.run(rows, deep=chance.randint(1, 4))
            except tuple({refusal for _, refusal, _ in REFUSED} | {Busy}) as refusal:
                refusals.add(type(refusal))
            self.assertEqual(told_by(desk), kept)
            log = desk.log()[ahead:]
            left = []
            for word, many in log:
                if word == "begin":
                    left.append(many)
                else:
                    self.assertLessEqual(many, left.pop())
            self.assertEqual(left, [])
            self.assertEqual(log[0], ("begin", len(rows)))
        self.assertGreater(len(refusals), 7)


class TestHouseAndBook(DeskTest):
    def test_they_are_as_the_desks_are(self):
        desk = state()
        desk.ask("drop one")
        house, book = desk.house(), desk.book()
        self.assertIs(type(house), House)
        self.assertIs(type(book), Book)
        self.assertEqual(len(house), 5)
        self.assertEqual(book.names(), [tuple(pair.split("#")) for pair in desk.ask("names").split(" ")])
        self.assertEqual(len(book), 5)
        self.assertEqual([book.undo() for _ in range(6)], [True] * 5 + [False])
        self.assertEqual(ran(house, desk.book().mark("even"), [4])[0], 1)

    def test_they_are_the_askers(self):
        desk = state()
        kept = told_by(desk)
        house = desk.house()
        house.put(((0, ("num", 77)),))
        book = desk.book()
        known = book.tell(["new = 78"])[0][1]
        book.update(["one = 79"])
        book.drop("even")
        self.assertEqual(told_by(desk), kept)
        self.assertEqual(len(house), 6)
        # The book is of another house than the one that's told beside it.
        self.assertIs(house.has(known), False)
        self.assertEqual(book.rows("new"), ["new = 78"])

    def test_they_do_not_change_with_the_desk(self):
        desk = state()
        house, book = desk.house(), desk.book()
        kept = (marks_told_by(house), all_of(book), unwound(book))
        desk.ask("tell new = 78")
        desk.run(["update one = 5", "drop even"], keep=True)
        self.assertEqual((marks_told_by(house), all_of(book), unwound(book)), kept)

    def test_a_branch_of_one_is_taken_in_there(self):
        desk = state()
        book = desk.book()
        branch = book.branch()
        branch.tell(["new = 78"])
        self.assertEqual([name for name, _, _ in book.take_in(branch)], ["new"])
        self.assertNotIn("new", dict(desk.book().names()))

    def test_behind_a_run_that_was_taken_back(self):
        desk = state()
        desk.run(["tell new = 78"])
        with self.assertRaises(BadRow):
            desk.run(["tell new = 78", "x"])
        self.assertEqual(len(desk.house()), 5)
        # What the desk is told from then on is put into the house that it tells.
        desk.ask("tell newer = 79")
        self.assertEqual(len(desk.house()), 6)
        self.assertEqual(desk.book().rows("newer"), ["newer = 79"])

    def test_two_to_which_the_same_is_done(self):
        one, other = state(), state()
        for row in ["tell f = ( inc 3 )", "update one = 3", "undo", "drop uno"]:
            self.assertEqual(one.ask(row), other.ask(row))
            rows = ["size", "update inc x = ( never )", "names"]
            self.assertEqual(one.run(rows), other.run(rows))
        self.assertEqual((told_by(one), one.log()), (told_by(other), other.log()))


if __name__ == "__main__":
    unittest.main()
