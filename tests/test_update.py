"""[16] and [17]: updates; [1] (a), (c) and (g)."""

import itertools
import random

from contentnames.book import Book
from contentnames.contents import mark_of, turned_to
from contentnames.errors import BadCall, BadRow, NoMark, NoName, Taken, TooLong, Torn, Twice
from contentnames.house import House
from contentnames.running import ran
from bookwork import (EVEN, ODD, ONE, REFUSALS, TEXTS, BookTest, SlowBook, all_of, book_of, led_by, some_row,
                      unwound)
from samples import content_of, forged, marks_told_by


def mark(text):
    """The mark of the content of this text."""
    return mark_of(content_of(text))


def marks_of(*tellings):
    """The marks of the names of rows that are told to a new book."""
    return dict(book_of(*tellings)[1].names())


def chain(many):
    """Names, and rows of which each calls the one ahead."""
    names = ["n" + chr(97 + at) for at in range(many)]
    return names, [names[0] + " = 1"] + [f"{name} = ( add 1 ( {ahead} ) )" for ahead, name in zip(names, names[1:])]


class UpdateTest(BookTest):
    def updates(self, book, rows, led, waits=()):
        """The update leads these names, those of led being the names behind a dash of their marks, and these wait."""
        ahead = dict(book.names())
        told = book.update(rows)
        self.assertEqual(told, (sorted((name, ahead[name], known) for name, known in led.items()), list(waits)))
        self.assertEqual(dict(book.names()), {**ahead, **led})
        self.assertIs(type(told), tuple)
        self.assertEqual([type(part) for part in told], [list, list])
        self.assertEqual({type(thing) for part in told for thing in part} - {tuple}, set())


class TestLeaning(UpdateTest):
    def test_of_one_on_which_nothing_leans(self):
        house, book = book_of("f = 1", "g = 2")
        self.updates(book, ["f = 3"], {"f": mark("0:3")})
        self.assertEqual(len(house), 3)
        self.assertEqual(len(book), 3)

    def test_in_one_step_and_in_more(self):
        rows = ["f x = ( add x 1 )", "g x = ( f ( f x ) )", "h = ( g 3 )", "k = ( times ( h ) ( f 2 ) )", "m = 7"]
        house, book = book_of(*rows)
        kept = marks_told_by(house)
        anew = marks_of("f x = ( add x 2 )", *rows[1:])
        self.updates(book, ["f y = ( add y 2 )"], {name: anew[name] for name in "fghk"})
        self.assertEqual(ran(house, book.mark("k"), [])[0], (3 + 2 + 2) * (2 + 2))
        # What a mark stands for stays.
        self.assertEqual([pair for pair in marks_told_by(house) if pair in kept], kept)
        self.assertEqual(len(house), 9)

    def test_does_not_lead_to_what_does_not_lean(self):
        house, book = book_of("f = 1", "g = ( f )", "h = 1", "k = ( h )", "m = 1", "p = ( add ( m ) 1 )")
        # All three lead to one mark, so what calls it leans whatever name it was written by.
        self.assertEqual(len({book.mark(name) for name in "fhm"}), 1)
        anew = marks_of("f = 2", "g = ( f )", "p = ( add ( f ) 1 )")
        self.updates(book, ["f = 2"], {"f": anew["f"], "g": anew["g"], "k": anew["g"], "p": anew["p"]})
        self.assertEqual(led_by(book, "h", "m"), [ONE, ONE])

    def test_through_contents_without_names(self):
        rows = ["f = 1", "g = ( add ( f ) 1 )", "h = ( add ( g ) 2 )", "k = ( add ( h ) 3 )"]
        house, book = book_of(*rows)
        book.drop("g")
        book.drop("h")
        anew = marks_of("f = 5", *rows[1:])
        self.updates(book, ["f = 5"], {"f": anew["f"], "k": anew["k"]})
        # What has no name and is called by what is touched is there anew, too.
        self.assertEqual([house.has(known) for known in anew.values()], [True] * 4)
        self.assertEqual(book.names_of(anew["g"]), [])
        self.assertEqual(ran(house, book.mark("k"), [])[0], 11)

    def test_contents_without_names_that_nothing_touched_calls_stay(self):
        rows = ["f = 1", "g = ( add ( f ) 1 )", "h = ( add ( g ) 2 )", "k = ( add ( f ) 3 )"]
        house, book = book_of(*rows)
        book.drop("h")
        anew = marks_of("f = 5", *rows[1:])
        self.updates(book, ["f = 5"], {name: anew[name] for name in "fgk"})
        self.assertIs(house.has(anew["h"]), False)
        self.assertEqual(len(house), 7)

    def test_what_another_book_has_over_the_house_stays(self):
        house, book = book_of("f = 1")
        other = Book(house)
        other.tell([f"g = ( #{ONE} )", "h = ( g )"])
        kept = all_of(other)
        self.updates(book, ["f = 2"], {"f": mark("0:2")})
        self.assertEqual(all_of(other), kept)
        self.assertEqual(len(house), 4)

    def test_a_content_with_several_names(self):
        house, book = book_of("f = 1", "g = ( add ( f ) 1 )", "h = ( g )")
        book.give("a", book.mark("g"))
        book.give("z", book.mark("g"))
        anew = marks_of("f = 2", "g = ( add ( f ) 1 )", "h = ( g )")
        self.updates(book, ["f = 2"], {"f": anew["f"], "a": anew["g"], "g": anew["g"], "z": anew["g"], "h": anew["h"]})

    def test_several_rows(self):
        rows = ["f x = ( add x 1 )", "g x = ( add x 2 )", "h = ( f ( g 3 ) )", "k = ( g ( h ) )", "m = ( f 0 )"]
        house, book = book_of(*rows)
        for order in [1, -1]:
            new = ["f x = ( times x 5 )", "g x = ( f ( add x 7 ) )"][::order]
            other = book.like()
            anew = marks_of(["f x = ( times x 5 )", "g x = ( f ( add x 7 ) )"], *rows[2:])
            self.updates(other, new, anew)
        self.assertEqual(ran(house, other.mark("k"), [])[0], ((3 + 7) * 5 * 5 + 7) * 5)

    def test_two_that_change_about(self):
        house, book = book_of("f = 1", "g = 2", "h = ( less ( f ) ( g ) )", "k = ( f )", "m = ( g )")
        f, g, k, m = led_by(book, "f", "g", "k", "m")
        self.updates(book, ["f = 2", "g = 1"], {"f": g, "g": f, "k": m, "m": k, "h": mark(f"0:(less (#{g}) (#{f}))")})
        self.assertEqual(ran(house, book.mark("h"), [])[0], 1)

    def test_an_old_one_that_leans_on_another_is_the_rows_alone(self):
        rows = ["f = 1", "g = ( add ( f ) 1 )", "h = ( g )"]
        house, book = book_of(*rows)
        anew = marks_of("f = 2", "g = 7", "h = ( g )")
        self.updates(book, ["f = 2", "g = 7"], anew)
        self.assertIs(house.has(mark(f"0:(add (#{mark('0:2')}) 1)")), False)

    def test_through_old_ones_that_have_rows(self):
        # h leans on f through g alone, which is one of the rows.
        house, book = book_of("f = 1", "g = ( add ( f ) 1 )", "h = ( add ( g ) 2 )")
        anew = marks_of("f = 5", "g = ( add ( f ) 1 )", "h = ( add ( g ) 2 )")
        self.updates(book, ["g = ( add ( f ) 1 )", "f = 5"], anew)

    def test_as_many_arguments_by_other_args(self):
        house, book = book_of("f x y = ( less x y )", "g = ( f 5 ( f 9 8 ) )")
        anew = marks_of("f y x = ( less x y )", "g = ( f 5 ( f 9 8 ) )")
        self.updates(book, ["f y x = ( less x y )"], anew)

    def test_other_names_of_an_old_mark_lead_there_still(self):
        house, book = book_of("f = 1", "a = 1", "z = 1", "g = ( a )")
        self.updates(book, ["f = 2"], {"f": mark("0:2"), "g": mark(f"0:(#{mark('0:2')})")})
        self.assertEqual(book.names_of(ONE), ["a", "z"])
        self.updates(book, ["z = 3"], {"z": mark("0:3")})
        self.assertEqual(book.names_of(ONE), ["a"])

    def test_rows_as_a_list_and_as_a_tuple(self):
        rows = ["f = 2", "g = ( f )"]
        for kind in [list, tuple]:
            house, book = book_of("f = 1", "g = 3")
            handed = kind(rows)
            self.updates(book, handed, marks_of(rows))
            self.assertEqual(handed, kind(rows))

    def test_what_is_told_is_the_askers(self):
        house, book = book_of("f = 1", "g x = x", "h = ( g ( f ) )")
        kept = led_by(book, "h")
        led, waits = book.update(["g x y = 2"])
        led.clear()
        waits.append("changed")
        self.assertEqual(led_by(book, "f", "h"), [ONE] + kept)
        self.assertEqual(book.mark("g"), mark("2:2"))


class TestRings(UpdateTest):
    def test_one_of_a_ring(self):
        house, book = book_of([EVEN, ODD], "ten = ( even 10 )")
        row = "even x = ( if x ( odd ( less x 1 ) ) 5 )"
        self.updates(book, [row], marks_of([row, ODD], "ten = ( even 10 )"))
        self.assertEqual(len(house), 6)
        self.assertEqual(ran(house, book.mark("ten"), [])[0], 5)
        self.assertEqual(house.ring(book.mark("odd")), led_by(book, "odd", "even"))

    def test_one_of_a_ring_that_calls_the_others_no_more(self):
        house, book = book_of([EVEN, ODD])
        anew = marks_of("even x = x", "odd x = ( if x ( even ( less x 1 ) ) 0 )")
        self.updates(book, ["even x = x"], anew)
        self.assertEqual(house.ring(book.mark("odd")), [book.mark("odd")])

    def test_all_of_a_ring(self):
        house, book = book_of([EVEN, ODD], "ten = ( even 10 )")
        self.updates(book, ["odd x = 1", "even x = 2"], marks_of("odd x = 1", "even x = 2", "ten = ( even 10 )"))

    def test_one_of_a_ring_of_which_the_others_have_no_name(self):
        ring = ["f x = ( if x ( g ( less x 1 ) ) 1 )", "g x = ( if x ( h ( less x 1 ) ) 2 )",
                "h x = ( if x ( f ( less x 1 ) ) 3 )"]
        for dropped in ["g", "h", "gh"]:
            house, book = book_of(ring, "k = ( f 7 )", "m = ( g 5 )")
            old = led_by(book, "f", "g", "h")
            for name in dropped:
                book.drop(name)
            if dropped == "gh":
                book.drop("m")
            # The row calls one that has no name by its mark: it's touched, and so is what it calls.
            anew = marks_of(["f x = ( if x ( g ( less x 1 ) ) 7 )", *ring[1:]], "k = ( f 7 )", "m = ( g 5 )")
            self.updates(book, [f"f x = ( if x ( #{old[1]} ( less x 1 ) ) 7 )"],
                         {name: anew[name] for name, _ in book.names()})
            self.assertEqual(house.ring(book.mark("f")), [anew[name] for name in "fgh"])

    def test_of_a_ring_what_nothing_touched_calls_stays(self):
        # g calls f alone; h, which has no name, is called by f's old content alone.
        house, book = book_of(["f = ( add ( h ) 1 )", "g = ( add ( f ) 2 )", "h = ( add ( g ) 3 )"])
        book.drop("h")
        self.updates(book, ["f = 4"], marks_of("f = 4", "g = ( add ( f ) 2 )"))
        self.assertEqual(len(house), 5)

    def test_a_row_that_calls_what_leans_on_it(self):
        house, book = book_of("f x = x", "g x = ( f ( add x 1 ) )", "h = ( g 2 )")
        anew = marks_of(["f x = ( if x ( g ( less x 2 ) ) 9 )", "g x = ( f ( add x 1 ) )"], "h = ( g 2 )")
        self.updates(book, ["f x = ( if x ( g ( less x 2 ) ) 9 )"], anew)
        self.assertEqual(house.ring(book.mark("f")), led_by(book, "f", "g"))
        self.assertEqual(ran(house, book.mark("h"), [])[0], 9)

    def test_a_row_that_calls_itself(self):
        house, book = book_of("f x = x", "g = ( f 3 )")
        anew = marks_of("f x = ( if x ( f ( less x 1 ) ) 5 )", "g = ( f 3 )")
        self.updates(book, ["f x = ( if x ( f ( less x 1 ) ) 5 )"], anew)

    def test_a_chain_of_twelve_shut_to_a_ring(self):
        names, rows = chain(12)
        house, book = book_of(*rows)
        row = f"na = ( add 2 ( {names[-1]} ) )"
        anew = marks_of([row] + rows[1:])
        self.updates(book, [row], anew)
        self.assertEqual(sorted(house.ring(book.mark("na"))), sorted(anew.values()))
        self.assertEqual(len(house.ring(book.mark("na"))), 12)

    def test_of_thirteen(self):
        names, rows = chain(13)
        house, book = book_of(*rows)
        self.refused(house, book, TooLong, 12, book.update, [f"na = ( add 2 ( {names[-1]} ) )"])
        anew = marks_of([f"na = ( add 2 ( {names[-2]} ) )"] + rows[1:12], rows[12])
        self.updates(book.like(), [f"na = ( add 2 ( {names[-2]} ) )"], anew)
        # Those without names count, too.
        for name in names[1:-1]:
            book.drop(name)
        self.refused(house, book, TooLong, 12, book.update, [f"na = ( add 2 ( {names[-1]} ) )"])
        # What waits isn't in it.
        self.assertEqual(book.update([f"na x = ( add 2 ( {names[-1]} ) )"])[1][0][:2], (names[-1], "leans"))

    def test_of_thirteen_that_would_say_the_same(self):
        for many, refused in [(12, False), (13, True)]:
            names = chain(many)[0]
            house, book = book_of("na = 1", *[f"{name} = ( {ahead} )" for ahead, name in zip(names, names[1:])])
            if refused:
                self.refused(house, book, TooLong, 12, book.update, [f"na = ( {names[-1]} )"])
            else:
                self.updates(book, [f"na = ( {names[-1]} )"], {name: mark("0:(@0)") for name in names})

    def test_twelve_rows_and_one_that_leans(self):
        names, rows = chain(12)
        house, book = book_of(*rows, f"z = ( {names[-1]} )")
        ring = [f"{name} = ( add 1 ( {ahead} ) )" for name, ahead in zip(names, names[-1:] + names)]
        self.refused(house, book, TooLong, 12, book.update, ["na = ( z )"] + rows[1:])
        # Of these twelve that say the same there's one.
        self.updates(book, ring, {**{name: mark("0:(add 1 (@0))") for name in names},
                                  "z": mark(f"0:(#{mark('0:(add 1 (@0))')})")})


class TestWaits(UpdateTest):
    def test_more_and_fewer_arguments(self):
        for row in ["f = 1", "f x y = ( add x y )", "f x y z = z", "f x y z w = w"]:
            house, book = book_of("f x = x", "g = ( f 1 )", "h = 5", "k x = ( add ( f x ) ( h ) )")
            kept = marks_told_by(house)
            told = marks_of(row)
            self.updates(book, [row], told, [("g", "parts", "f"), ("k", "parts", "f")])
            self.assertEqual([pair for pair in marks_told_by(house) if pair[0] != told["f"]], kept)

    def test_what_leans_on_what_waits(self):
        house, book = book_of("f x = x", "g = ( f 1 )", "h = ( g )", "k = ( add ( h ) ( g ) )", "m = 4", "n = ( m )")
        g, h = led_by(book, "g", "h")
        self.updates(book, ["f x y = x"], {"f": mark("2:a")},
                     [("g", "parts", "f"), ("h", "leans", g), ("k", "leans", h)])
        self.assertEqual(led_by(book, "g", "h"), [g, h])
        self.assertEqual(len(house), 7)

    def test_parts_ahead_of_leans(self):
        # m calls one that waits first, yet it's the call of an old one that is told.
        house, book = book_of("f x = x", "g = ( f 1 )", "m = ( add ( g ) ( f 2 ) )")
        self.updates(book, ["f = 3"], {"f": mark("0:3")}, [("g", "parts", "f"), ("m", "parts", "f")])

    def test_the_first_such_call(self):
        house, book = book_of("p x = ( add x 1 )", "q x = ( add x 2 )", "r x = ( add x 3 )",
                              "f = ( add ( p 1 ) ( add ( q 1 ) ( r 1 ) ) )", "g = ( add ( q 1 ) ( p 1 ) )",
                              "h = ( r ( q ( p 1 ) ) )", "k = ( p ( q ( r 1 ) ) )", "m = ( if ( q 1 ) ( r 1 ) ( p 1 ) )")
        other = book.like()
        two = ["p x y = 1", "q x y = 2"]
        self.updates(other, two, marks_of(two), [("f", "parts", "p"), ("g", "parts", "q"), ("h", "parts", "q"),
                                                 ("k", "parts", "p"), ("m", "parts", "q")])
        other = book.like()
        # Of p the number of arguments is as it was: a call of it isn't such a call.
        three = ["r = 1", "p x = 2", "q = 3"]
        self.updates(other, three, marks_of(three), [("f", "parts", "q"), ("g", "parts", "q"), ("h", "parts", "r"),
                                                     ("k", "parts", "q"), ("m", "parts", "q")])

    def test_the_first_mark_that_waits(self):
        house, book = book_of("f x = x", "p = ( f 1 )", "q = ( f 2 )", "r x = ( add x ( f 3 ) )",
                              "g = ( add ( q ) ( p ) )", "h = ( r ( q ) )", "k = ( if 1 ( r 2 ) ( q ) )",
                              "m = ( if 1 2 ( h ) )")
        p, q, r, h = led_by(book, "p", "q", "r", "h")
        waits = [(name, "parts", "f") for name in "pqr"]
        waits += [("g", "leans", q), ("h", "leans", r), ("k", "leans", r), ("m", "leans", h)]
        self.updates(book, ["f x y = x"], {"f": mark("2:a")}, sorted(waits))

    def test_one_that_waits_and_calls_itself(self):
        house, book = book_of("f x = x", "g x = ( if x ( g ( f x ) ) 1 )", "p = ( f 1 )",
                              "h x = ( if x ( h ( p ) ) 1 )", "k x = ( if ( p ) ( k 1 ) 1 )")
        h, p = led_by(book, "h", "p")
        # All that calls itself and waits calls one that waits: itself.
        self.updates(book, ["f x y = x"], {"f": mark("2:a")}, [
            ("g", "parts", "f"), ("h", "leans", h), ("k", "leans", p), ("p", "parts", "f")])

    def test_a_ring_of_which_one_waits(self):
        house, book = book_of("f x = x", ["p x = ( if x ( q ( f x ) ) 1 )", "q x = ( r x )", "r x = ( add ( s x ) ( p x ) )",
                                          "s x = ( if x ( s 0 ) ( q x ) )"])
        p, q, r, s = led_by(book, "p", "q", "r", "s")
        self.updates(book, ["f x y = x"], {"f": mark("2:a")}, [
            ("p", "parts", "f"), ("q", "leans", r), ("r", "leans", s), ("s", "leans", s)])

    def test_one_of_a_ring_by_other_parts(self):
        house, book = book_of([EVEN, ODD], "ten = ( even 10 )", "nine = ( odd 9 )")
        odd = book.mark("odd")
        self.updates(book, ["even x y = ( odd x )"], {"even": mark(f"2:(#{odd} a)")},
                     [("nine", "leans", odd), ("odd", "parts", "even"), ("ten", "parts", "even")])
        # What waits still runs as it did.
        self.assertEqual(ran(house, book.mark("nine"), [])[0], 1)
        self.assertEqual(ran(house, book.mark("even"), [9, 0])[0], 1)

    def test_what_waits_is_called_by_its_mark(self):
        house, book = book_of("f x = x", "g = ( f 1 )", "h = 2", "k = ( add ( g ) ( h ) )", "m = ( h )")
        g, k = led_by(book, "g", "k")
        # m leans on h alone; k leans on g, which waits; the rows call both.
        rows = ["f x y = ( g )", "h = ( add ( k ) 7 )"]
        h = mark(f"0:(add (#{k}) 7)")
        self.updates(book, rows, {"f": mark(f"2:(#{g})"), "h": h, "m": mark(f"0:(#{h})")},
                     [("g", "parts", "f"), ("k", "leans", g)])

    def test_what_waits_without_a_name(self):
        house, book = book_of("f x = x", "g = ( f 1 )", "h = ( g )")
        g = book.mark("g")
        book.drop("g")
        self.updates(book, ["f = 2"], {"f": mark("0:2")}, [("h", "leans", g)])
        # Not touched at all are those without a name that nothing touched calls.
        house, book = book_of("f x = x", "g = ( f 1 )")
        book.drop("g")
        self.updates(book, ["f = 2"], {"f": mark("0:2")})

    def test_several_names_of_what_waits(self):
        house, book = book_of("f x = x", "g = ( f 1 )", "z = ( f 1 )", "a = ( g )")
        g = book.mark("g")
        self.updates(book, ["f = 2"], {"f": mark("0:2")},
                     [("a", "leans", g), ("g", "parts", "f"), ("z", "parts", "f")])

    def test_the_told_name_not_another_of_the_old_mark(self):
        house, book = book_of("f x = x", "a x = x", "g = ( a 1 )", "h = ( f 1 )")
        self.updates(book, ["f = 2"], {"f": mark("0:2")}, [("g", "parts", "f"), ("h", "parts", "f")])
        self.assertEqual(book.mark("a"), mark("1:a"))

    def test_what_waits_and_what_does_not(self):
        house, book = book_of("f x = x", "g = 1", "h = ( f ( g ) )", "k = ( add 5 ( g ) )")
        anew = marks_of("f x y = y", "g = 2", "k = ( add 5 ( g ) )")
        self.updates(book, ["g = 2", "f x y = y"], anew, [("h", "parts", "f")])

    def test_what_waits_follows_when_the_parts_fit_again(self):
        rows = ["f x = x", "g = ( f 1 )", "h = ( g )"]
        house, book = book_of(*rows)
        book.update(["f x y = ( add x y )"])
        # g calls the mark that f led to once, which is no old one now.
        self.updates(book, ["f x = ( add x 1 )"], {"f": mark("1:(add a 1)")})
        anew = marks_of("f x = ( add x 1 )", *rows[1:])
        self.updates(book, ["g = ( f 1 )"], {"g": anew["g"], "h": anew["h"]})


class TestRowsCalls(UpdateTest):
    def test_an_old_mark_by_its_mark_and_by_names(self):
        house, book = book_of("f x = ( add x 1 )", "g x = x", "a x = ( add x 1 )", "h = ( f 3 )")
        f = book.mark("f")
        anew = marks_of(["f x = ( add x 2 )", "g x = ( add ( f x ) ( f 2 ) )"], "h = ( f 3 )")
        for called in ["f", "a", "#" + f]:
            other = book.like()
            self.updates(other, ["f x = ( add x 2 )", f"g x = ( add ( {called} x ) ( f 2 ) )"], anew)
            self.assertEqual(other.mark("a"), f)

    def test_itself_by_its_old_mark(self):
        house, book = book_of("f x = ( add x 1 )", "a x = ( add x 1 )")
        anew = marks_of("f x = ( if x ( f ( less x 1 ) ) 2 )")
        for called in ["f", "a", "#" + book.mark("f")]:
            self.updates(book.like(), [f"f x = ( if x ( {called} ( less x 1 ) ) 2 )"], anew)

    def test_looked_at_as_a_call_of_its_row(self):
        house, book = book_of("f x = x", "g = 1", "a x = x", "h x = ( a x )")
        f = book.mark("f")
        for called in ["f", "a", "#" + f]:
            self.refused(house, book, BadCall, "g", book.update, ["f x y = y", f"g = ( {called} 1 )"])
            self.refused(house, book, BadCall, "f", book.update, [f"f x y = ( {called} x )"])
            rows = ["f x y = y", f"g = ( {called} 1 2 )"]
            self.updates(book.like(), rows, marks_of(["f x y = y", "g = ( f 1 2 )"]), [("h", "parts", "f")])

    def test_what_is_touched_by_its_mark(self):
        house, book = book_of("f = 1", "g = 5", "h = ( add ( f ) 2 )", "k = ( add ( h ) 3 )")
        h, k = led_by(book, "h", "k")
        for name in "hk":
            book.drop(name)
        # By the row alone h and k are touched: k by its mark, h by k.
        anew = marks_of("f = 4", "h = ( add ( f ) 2 )", "k = ( add ( h ) 3 )", "g = ( times ( k ) 7 )")
        self.updates(book, ["f = 4", f"g = ( times ( #{k} ) 7 )"], {"f": anew["f"], "g": anew["g"]})
        self.assertEqual([house.has(anew[name]) for name in "hk"], [True, True])
        self.assertEqual(ran(house, book.mark("g"), [])[0], 63)

    def test_what_is_not_touched_by_its_mark_or_name(self):
        house, book = book_of("f = 1", "g = 5", "h = ( g )")
        g, h = led_by(book, "g", "h")
        self.updates(book, [f"f = ( add ( g ) ( #{h} ) )"], {"f": mark(f"0:(add (#{g}) (#{h}))")})

    def test_names_of_rows_ahead_of_names_of_the_book(self):
        house, book = book_of("f = 1", "g = 2", "h = ( f )")
        anew = marks_of(["f = ( add ( g ) 1 )", "g = ( times ( h ) 3 )", "h = ( f )"])
        self.updates(book, ["f = ( add ( g ) 1 )", "g = ( times ( h ) 3 )"], anew)


class TestComingToOne(UpdateTest):
    def test_like_contents_that_come_to_one(self):
        house, book = book_of("f x = x", "k x = ( add x 1 )", "g x = ( f ( f x ) )", "h x = ( k ( k x ) )")
        self.assertNotEqual(*led_by(book, "g", "h"))
        f, g = led_by(book, "f", "g")
        many = len(house)
        self.updates(book, ["k z = z"], {"k": f, "h": g})
        self.assertEqual(len(house), many)
        self.assertEqual(book.names_of(g), ["g", "h"])

    def test_touched_ones_that_come_to_one(self):
        house, book = book_of("f x = x", "k x = ( add x 1 )", "g x = ( f ( f x ) )", "h x = ( k ( k x ) )")
        anew = marks_of("f x = 7", "g x = ( f ( f x ) )")
        self.updates(book, ["f x = 7", "k y = 7"], {"f": anew["f"], "k": anew["f"], "g": anew["g"], "h": anew["g"]})

    def test_a_ring_that_comes_to_one(self):
        house, book = book_of("f x = 1", "g x = ( if x ( f ( less x 1 ) ) 2 )", "h x = ( if x ( g ( less x 1 ) ) 2 )")
        one = mark("1:(if a (@0 (less a 1)) 2)")
        self.updates(book, ["f x = ( if x ( h ( less x 1 ) ) 2 )"], {"f": one, "g": one, "h": one})
        self.assertEqual(len(house), 4)

    def test_back_to_what_it_was(self):
        rows = ["f x = x", "g = ( f 1 )", "h = ( add ( g ) ( f 2 ) )"]
        house, book = book_of(*rows)
        kept = dict(book.names())
        book.update(["f x = ( add x 1 )"])
        many = len(house)
        self.updates(book, ["f x = x"], kept)
        self.assertEqual(len(house), many)
        self.assertEqual(len(book), 5)

    def test_to_what_it_is(self):
        house, book = book_of([EVEN, ODD], "ten = ( even 10 )")
        kept = marks_told_by(house)
        for rows in [[EVEN], [ODD, EVEN], [EVEN.replace("x", "y")], [f"ten = ( #{book.mark('even')} 10 )"]]:
            self.updates(book, rows, {})
        self.assertEqual(marks_told_by(house), kept)
        self.assertEqual(len(book), 6)

    def test_the_same_twice(self):
        house, book = book_of("f x = x", "g = ( f 1 )", "h x = ( f x )")
        book.update(["f x = ( add x ( g ) )", "h x = ( h x )"])
        kept = book.names()
        self.updates(book, ["f x = ( add x ( g ) )", "h x = ( h x )"], {})
        self.assertEqual(book.names(), kept)

    def test_the_same_twice_of_what_waits(self):
        house, book = book_of("f x = x", "g = ( f 1 )")
        self.updates(book, ["f x y = x"], {"f": mark("2:a")}, [("g", "parts", "f")])
        # g leans on an old one no more.
        self.updates(book, ["f x y = x"], {})
        self.updates(book, ["f = 3"], {"f": mark("0:3")})


class TestUndone(UpdateTest):
    def test_undone(self):
        house, book = book_of([EVEN, ODD], "ten = ( even 10 )", "f x = x", "g = ( f 1 )")
        for rows in [["even x = ( odd x )"], ["f = 1"], [EVEN], ["f x = x", "odd x = 2"], ["ten = 1", "g = 2"]]:
            kept = all_of(book)
            book.update(rows)
            self.assertEqual(len(book), kept[0] + 1)
            many = len(house)
            self.assertIs(book.undo(), True)
            self.assertEqual(all_of(book), kept)
            self.assertEqual(len(house), many)

    def test_one_behind_the_other(self):
        house, book = book_of("f x = x", "g = ( f 1 )", "h = ( g )")
        states = []
        for number in range(10):
            states.append(book.names())
            book.update([f"f x = ( add x {number} )"])
        self.assertEqual(unwound(book)[:10], states[::-1])
        for names in states[::-1]:
            book.undo()
            self.assertEqual(book.names(), names)

    def test_what_a_mark_tells_stays(self):
        house, book = book_of([EVEN, ODD], "ten = ( even 10 )")
        told = {known: ran(house, known, [10][:house.content(known)[0][0]]) for known in house.marks()}
        for rows in [["even x = 3"], ["odd x y = x"], ["ten = 5"], ["even x = ( odd x x )"]]:
            book.update(rows)
            for known, value in told.items():
                self.assertEqual(ran(house, known, [10][:house.content(known)[0][0]]), value)


class TestRefused(UpdateTest):
    def told(self, house, book, refusal, what, rows):
        self.refused(house, book, refusal, what, book.update, rows)
        self.refused(house, book, refusal, what, book.update, tuple(rows))

    def test_bad_row(self):
        house, book = book_of("f = 1", "g = 2")
        for text in ["", "f", "f = x", "f = ( add 1 )", "f = 1 ", "if = 1", "f = 1 ; g = 2", "f = 1000003", "( " * 900]:
            for rows in [[text], ["g = 1", text], [text, "g = 1"], ["g = 1", text, "=", "g"], ["h = 1", text]]:
                self.told(house, book, BadRow, text, rows)

    def test_twice(self):
        house, book = book_of("f = 1", "g = 2")
        self.told(house, book, Twice, "f", ["f = 1", "f = 1"])
        self.told(house, book, Twice, "g", ["f = 3", "g = 1", "g = 4", "f = 5"])
        self.told(house, book, Twice, "h", ["f = 3", "h = 1", "h = 4"])

    def test_no_name_of_a_row(self):
        house, book = book_of("f = 1", "g = ( f )")
        for text in ["h", "zz", "abcdefgh"]:
            self.told(house, book, NoName, text, [f"{text} = 1"])
            self.told(house, book, NoName, text, ["f = ( no )", f"{text} = 1", "k = 2"])
        book.drop("f")
        self.told(house, book, NoName, "f", ["f = 1"])

    def test_torn(self):
        house, book = book_of("f = 1", "a = 1", "z = 1", "g = 2", "b = 2", "h = 3")
        self.told(house, book, Torn, ONE, ["f = 4", "a = 5"])
        self.told(house, book, Torn, ONE, ["f = 4", "a = 4"])
        self.told(house, book, Torn, ONE, ["h = 1", "z = 4", "g = 5", "a = 6", "b = 7"])
        self.told(house, book, Torn, mark("0:2"), ["h = 1", "z = 4", "g = 5", "b = 6", "a = 7"])
        self.updates(book, ["f = 4", "g = 5"], {"f": mark("0:4"), "g": mark("0:5")})

    def test_calls(self):
        house, book = book_of("f = 1", "g x = x", "h = 2")
        self.told(house, book, NoName, "no", ["f = ( no )"])
        self.told(house, book, NoMark, "zzzzzz", ["f = ( #zzzzzz )"])
        for call in ["( g )", "( g 1 2 )", "( h 1 )", f"( #{ONE} 1 )", "( f 1 )"]:
            self.told(house, book, BadCall, "f", [f"f = {call}"])
            self.told(house, book, BadCall, "f", ["g x = 3", f"f = {call}"])
            self.told(house, book, BadCall, "h", ["f = ( h )", f"h = {call}"])
        # The row's own number of arguments counts, of its name and of its old mark.
        self.told(house, book, BadCall, "h", ["g = 1", "h = ( g 1 )"])
        self.told(house, book, BadCall, "h", ["h = ( g 1 )", "g = 1"])
        self.told(house, book, BadCall, "h", [f"h = ( #{book.mark('g')} 1 )", "g = 1"])
        none, missing, wrong = ("( no )", NoName, "no"), ("( #zzzzzz )", NoMark, "zzzzzz"), ("( h 1 )", BadCall, "f")
        for first, second in itertools.permutations([none, missing, wrong], 2):
            self.told(house, book, first[1], first[2], [f"f = ( add {first[0]} {second[0]} )"])
            self.told(house, book, first[1], first[2], [f"f = ( g {first[0]} )", f"h = {second[0]}"])
            outer = first[0].replace(" 1 )", " )").replace(" )", f" {second[0]} )")
            self.told(house, book, first[1], first[2], [f"f = {outer}"])

    def test_taken_there(self):
        house, book = book_of("f = 1", "g = ( add ( f ) 1 )", "h = ( add ( f ) 2 )")
        anew = marks_of("f = 7", "g = ( add ( f ) 1 )", "h = ( add ( f ) 2 )")
        for names in ["f", "g", "h", "fg", "gh", "fgh"]:
            other = house.like()
            like = Book(other)
            for name, known in book.names():
                like.give(name, known)
            for name in names:
                other.put(forged(anew[name]))
            self.told(other, like, Taken, min(anew[name] for name in names), ["f = 7"])

    def test_taken_by_what_becomes_of_one_without_a_name(self):
        house, book = book_of("f = 1", "g = ( add ( f ) 1 )", "h = ( add ( g ) 2 )")
        anew = marks_of("f = 7", "g = ( add ( f ) 1 )", "h = ( add ( g ) 2 )")
        book.drop("g")
        house.put(forged(anew["g"]))
        self.told(house, book, Taken, anew["g"], ["f = 7"])

    def test_taken_among_these(self):
        (_, one), (_, other) = forged(mark("0:5"))[0], forged(mark("0:5"), 1)[0]
        house, book = book_of("f = 1", "g = 2", "h = 3")
        rows = [f"f = ( add {one[1][1]} {one[2][1]} )", f"g = ( add {other[1][1]} {other[2][1]} )"]
        self.told(house, book, Taken, mark("0:5"), rows)
        self.told(house, book, Taken, mark("0:5"), ["h = 5", rows[1]])

    def test_too_long_ahead_of_taken(self):
        names, rows = chain(13)
        house, book = book_of(*rows, "z = 7")
        house.put(forged(mark("0:8")))
        self.told(house, book, Taken, mark("0:8"), ["na = 3", "z = 8"])
        self.told(house, book, TooLong, 12, [f"na = ( {names[-1]} )", "z = 8"])

    def test_of_two_that_are_due_the_one_told_first(self):
        names, rows = chain(13)
        house, book = book_of(*rows, "y = 7", "z = 7", "x = 4")
        wrong = [f"na = ( {names[-1]} )", "x = ( y 1 )"]
        self.told(house, book, BadCall, "x", wrong)
        self.told(house, book, NoMark, "zzzzzz", ["nb = ( #zzzzzz )"] + wrong)
        self.told(house, book, NoName, "no", ["nb = ( no )", "nc = ( #zzzzzz )"] + wrong)
        self.told(house, book, Torn, book.mark("y"), ["nb = ( no )", "y = 1", "z = 2"] + wrong)
        self.told(house, book, NoName, "w", ["nb = ( no )", "y = 1", "z = 2", "w = 3"] + wrong)
        self.told(house, book, Twice, "y", ["nb = ( no )", "y = 1", "z = 2", "w = 3", "y = 2"] + wrong)
        self.told(house, book, BadRow, "y", ["nb = ( no )", "y = 1", "z = 2", "w = 3", "y = 2", "y"] + wrong)
        for refused in [["x = ( y 1 )"], ["w = 3"], ["y = 1", "z = 2"], ["y"], [f"na = ( {names[-1]} )"]]:
            with self.assertRaises(REFUSALS):
                book.update(refused)
        self.updates(book, ["x = 5"], {"x": mark("0:5")})
        self.assertEqual(len(book), 17)

    def test_of_an_empty_book(self):
        house, book = book_of()
        self.told(house, book, NoName, "f", ["f = 1"])
        for text in TEXTS:
            self.told(house, book, BadRow, text, [text])


class TestAsGoingThroughAllTells(BookTest):
    def test_some_books(self):
        chance = random.Random(71)
        waits, led, refused = set(), 0, set()
        for _ in range(120):
            book, slow = book_of()[1], SlowBook()
            for step in range(10):
                known = dict(book.names())
                manies = {name: slow.house.content(known[name])[0][0] for name in known}
                marks = {other: slow.house.content(other)[0][0] for other in slow.house.marks()}
                names = sorted(known) if known and chance.random() < 0.6 else sorted(set("fghkmn") - set(known))
                names = chance.sample(names, min(len(names), chance.choice([1, 1, 2, 3])))
                heads = {name: manies[name] if name in manies and chance.random() < 0.7 else chance.choice([0, 1, 2])
                         for name in names}
                rows = [some_row(chance, name, {**manies, **heads}, marks if chance.random() < 0.5 else {}, heads[name])
                        for name in names]
                told = []
                for asked in [book, slow]:
                    try:
                        told.append((asked.update if names[:1] and names[0] in known else asked.tell)(rows))
                    except REFUSALS as refusal:
                        told.append((type(refusal), refusal.what))
                self.assertEqual(told[0], told[1])
                self.assertEqual(book.names(), sorted(slow.names.items()))
                if isinstance(told[0], tuple) and isinstance(told[0][0], list):
                    led += len(told[0][0])
                    waits |= {word for _, word, _ in told[0][1]}
                elif isinstance(told[0], tuple):
                    refused.add(told[0][0])
                if known and chance.random() < 0.2:
                    name = chance.choice(sorted(known))
                    book.drop(name)
                    slow.deed({other: mark for other, mark in slow.names.items() if other != name})
        self.assertEqual(waits, {"parts", "leans"})
        self.assertGreater(led, 300)
        self.assertIn(BadCall, refused)
        self.assertIn(Torn, refused)

    def test_three_hundred_contents(self):
        house, book = book_of("f = 1")
        book.give("n", book.mark("f"))
        for _ in range(149):
            book.tell(["g = ( add 1 ( n ) )"])
            book.drop("n")
            book.give("n", book.mark("g"))
            book.drop("g")
        self.assertEqual(len(house), 150)
        told = book.update(["f = 2"])
        self.assertEqual([change[0] for change in told[0]], ["f", "n"])
        self.assertEqual(len(house), 300)
        self.assertEqual(ran(house, book.mark("n"), [])[0], 151)

    def test_of_rings_turned_about(self):
        house, book = book_of([EVEN, ODD])
        content = house.content(book.mark("even"))
        self.assertEqual([mark_of(turned_to(content, place)) for place in range(2)], led_by(book, "even", "odd"))
        self.assertEqual(House().put(content), book.mark("even"))


if __name__ == "__main__":
    import unittest
    unittest.main()
