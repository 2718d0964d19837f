"""[14] and [15]: books, what they are told, their rows, and undoing; [1] (a), (b) and (g)."""

import itertools
import random
import unittest

from contentnames.book import Book
from contentnames.contents import mark_of, turned_to
from contentnames.errors import BadCall, BadName, BadRow, Known, Nameless, NoMark, NoName, Taken, Twice
from contentnames.house import House
from contentnames.rings import contents_of
from contentnames.rows import row_in
from contentnames.running import ran
from bookwork import (EVEN, ODD, ONE, REFUSALS, TEXTS, BookTest, SlowBook, all_of, book_of, led_by, some_row,
                      unwound)
from samples import bodies_in, content_of, forged, marks_told_by, ring_calling


def mark(text):
    """The mark of the content of this text."""
    return mark_of(content_of(text))


def told_bodies(rows):
    """The marks of rows that call none but one another, by their bodies."""
    names = [row.split(" ")[0] for row in rows]

    def ringed(draft):
        if draft[0] == "name":
            return ("ring", names.index(draft[1]), tuple(ringed(part) for part in draft[2]))
        return tuple(ringed(part) if isinstance(part, tuple) else part for part in draft)

    return [mark_of(content) for content in contents_of([row_in(row)[1:2] + (ringed(row_in(row)[2]),) for row in rows])]


def ring_rows(names):
    """Rows of a ring in which each calls the next one."""
    return [f"{name} x = ( if x ( {after} ( less x 1 ) ) {at} )"
            for at, (name, after) in enumerate(zip(names, names[1:] + names[:1]))]


class TestTell(BookTest):
    def test_a_new_book(self):
        house, book = book_of()
        self.assertEqual((len(book), book.names(), book.names_of(ONE), unwound(book)), (0, [], [], []))
        self.assertEqual(len(house), 0)

    def test_one_row(self):
        house, book = book_of()
        self.assertEqual(book.tell(["f = 1"]), [("f", ONE)])
        self.assertEqual((book.mark("f"), book.names(), book.names_of(ONE)), (ONE, [("f", ONE)], ["f"]))
        self.assertEqual(marks_told_by(house), [(ONE, content_of("0:1"))])

    def test_rows_that_call_one_another(self):
        house, book = book_of()
        told = book.tell([EVEN, "ten = ( even 10 )", ODD])
        self.assertIs(type(told), list)
        self.assertEqual([type(pair) for pair in told], [tuple] * 3)
        self.assertEqual(told, list(zip(["even", "ten", "odd"], told_bodies([EVEN, "ten = ( even 10 )", ODD]))))
        self.assertEqual(house.ring(book.mark("even")), led_by(book, "even", "odd"))
        self.assertEqual(house.calls(book.mark("ten")), [book.mark("even")])
        self.assertEqual(len(house), 3)
        self.assertEqual(ran(house, book.mark("ten"), [])[0], 1)

    def test_one_to_twelve_rows(self):
        for many in range(1, 13):
            names = ["n" + letter for letter in "abcdefghijkl"[:many]]
            for rows in [ring_rows(names), [f"{name} = {at}" for at, name in enumerate(names)],
                         [f"{name} = ( add 1 ( {after} ) )" for name, after in zip(names, names[1:])] + [names[-1] + " = 1"]]:
                house, book = book_of()
                self.assertEqual(book.tell(rows), list(zip(names, told_bodies(rows))))
                self.assertEqual(len(house), many)
                self.assertEqual(len(book), 1)

    def test_names_that_the_book_has(self):
        house, book = book_of("one = 1", "inc x = ( add x ( one ) )")
        self.assertEqual(book.mark("inc"), mark(f"1:(add a (#{ONE}))"))
        book.tell(["two = ( inc ( one ) )", "four = ( inc ( inc ( two ) ) )"])
        inc, two = led_by(book, "inc", "two")
        self.assertEqual(two, mark(f"0:(#{inc} (#{ONE}))"))
        self.assertEqual(book.mark("four"), mark(f"0:(#{inc} (#{inc} (#{two})))"))

    def test_marks_that_are_there(self):
        house, book = book_of("one = 1")
        book.drop("one")
        self.assertEqual(book.tell([f"f x = ( add x ( #{ONE} ) )", f"g = ( f ( #{ONE} ) )"])[0],
                         ("f", mark(f"1:(add a (#{ONE}))")))
        other = house.put(content_of("2:(less a b)"))
        self.assertEqual(book.tell([f"h = ( #{other} 1 ( #{ONE} ) )"]), [("h", mark(f"0:(#{other} 1 (#{ONE}))"))])

    def test_a_row_of_its_own_name_and_of_an_args(self):
        house, book = book_of("x = 1")
        self.assertEqual(book.tell(["f x = ( add x ( x ) )"]), [("f", mark(f"1:(add a (#{ONE}))"))])
        self.assertEqual(book.tell(["g g = ( g g )"]), [("g", mark("1:(@0 a)"))])
        # Among the rows a name is the row's, whose argument may have its name, too.
        self.assertEqual(book.tell(["h k = ( k k )", "k h = ( add h 5 )"]),
                         [("h", mark(f"1:(#{mark('1:(add a 5)')} a)")), ("k", mark("1:(add a 5)"))])

    def test_in_another_order(self):
        rows = [EVEN, ODD, "ten = ( even 10 )", "nine = ( odd ( less ( ten ) 1 ) )"]
        kept = dict(book_of(rows)[1].names())
        for order in itertools.permutations(rows):
            house, book = book_of(list(order))
            self.assertEqual(dict(book.names()), kept)
            self.assertEqual(marks_told_by(house), marks_told_by(book_of(rows)[0]))

    def test_by_other_names_and_args(self):
        one = book_of([EVEN, ODD, "ten = ( even 10 )"])[1]
        other = book_of(["p q = ( if q ( odd ( less q 1 ) ) 1 )", "odd even = ( if even ( p ( less even 1 ) ) 0 )",
                         "even = ( p 10 )"])[1]
        self.assertEqual(led_by(one, "even", "odd", "ten"), led_by(other, "p", "odd", "even"))

    def test_part_by_part(self):
        rows = [EVEN, ODD, "ten = ( even 10 )", "inc x = ( add x 1 )", "last x = ( inc ( add ( ten ) ( odd x ) ) )"]
        whole = book_of(rows)
        for parts in [[rows[:2], rows[2:]], [rows[:2], [rows[2]], [rows[3]], [rows[4]]], [[rows[3]], rows[:3], [rows[4]]],
                      [rows[:4], rows[4:]], [[rows[3], rows[1], rows[0]], rows[2:3] + rows[4:]]]:
            house, book = book_of(*parts)
            self.assertEqual(book.names(), whole[1].names())
            self.assertEqual(marks_told_by(house), marks_told_by(whole[0]))
            self.assertEqual(len(book), len(parts))

    def test_rows_that_say_the_same_are_one(self):
        house, book = book_of()
        told = book.tell(["f x = ( if x ( g ( less x 1 ) ) 1 )", "g y = ( if y ( f ( less y 1 ) ) 1 )",
                          "h z = ( if z ( h ( less z 1 ) ) 1 )"])
        self.assertEqual(told, [("f", mark("1:(if a (@0 (less a 1)) 1)"))] + [(name, told[0][1]) for name in "gh"])
        self.assertEqual(len(house), 1)
        self.assertEqual(book.names_of(told[0][1]), ["f", "g", "h"])

    def test_what_is_there_already(self):
        house, book = book_of("f = 1", [EVEN, ODD])
        kept = marks_told_by(house)
        self.assertEqual(book.tell(["g = 1"]), [("g", ONE)])
        self.assertEqual(book.tell(["h = 1", "k = 1"]), [("h", ONE), ("k", ONE)])
        book.tell(["p x = ( if x ( q ( less x 1 ) ) 0 )", "q x = ( if x ( p ( less x 1 ) ) 1 )"])
        self.assertEqual(marks_told_by(house), kept)
        self.assertEqual(led_by(book, "p", "q"), led_by(book, "odd", "even"))

    def test_rows_as_a_list_and_as_a_tuple(self):
        self.assertEqual(book_of([EVEN, ODD])[1].names(), book_of((EVEN, ODD))[1].names())
        rows = [EVEN, ODD]
        house, book = book_of(rows)
        self.assertEqual(rows, [EVEN, ODD])

    def test_what_is_told_is_the_askers(self):
        house, book = book_of("g = 2")
        told = book.tell(["f = 1"])
        told.clear()
        self.assertEqual(book.names(), [("f", ONE), ("g", mark("0:2"))])

    def test_two_books_over_one_house(self):
        house, one = book_of("f = 1")
        other = Book(house)
        self.assertEqual(other.names(), [])
        self.refused(house, other, NoName, "f", other.mark, "f")
        self.refused(house, other, NoName, "f", other.tell, ["g = ( f )"])
        self.assertEqual(other.tell(["f = 2"]), [("f", mark("0:2"))])
        self.assertEqual(other.tell([f"g = ( add ( f ) ( #{ONE} ) )"]), [("g", mark(f"0:(add (#{mark('0:2')}) (#{ONE}))"))])
        self.assertEqual((one.names(), len(one)), ([("f", ONE)], 1))
        one.give("g", other.mark("g"))
        self.assertEqual(one.mark("g"), other.mark("g"))
        other.undo()
        self.assertEqual(one.mark("g"), mark(f"0:(add (#{mark('0:2')}) (#{ONE}))"))
        self.assertEqual(len(house), 3)

    def test_what_others_put_into_the_house(self):
        house, book = book_of()
        house.put(content_of("0:1"))
        book.give("f", ONE)
        self.assertEqual(book.rows("f"), ["f = 1"])
        self.assertIs(house.has(book.tell(["g = 7"])[0][1]), True)

    def test_what_a_mark_stands_for_stays(self):
        chance = random.Random(61)
        house, book = book_of()
        stood = {}
        for step in range(60):
            names = [name for name in ["f", "g", "h", "k"] if name not in dict(book.names())]
            manies = {name: house.content(known)[0][0] for name, known in book.names()}
            try:
                if names:
                    book.tell([some_row(chance, names[0], manies, {})])
                elif chance.random() < 0.5:
                    book.update([some_row(chance, "f", manies, {})])
                else:
                    book.drop(chance.choice(["f", "g", "h", "k"]))
            except REFUSALS:
                pass
            stood.update({known: content for known, content in marks_told_by(house) if known not in stood})
            self.assertEqual(sorted(stood.items()), marks_told_by(house))
        self.assertGreater(len(stood), 15)


class TestTellRefused(BookTest):
    def told(self, house, book, refusal, what, rows):
        self.refused(house, book, refusal, what, book.tell, rows)
        self.refused(house, book, refusal, what, book.tell, tuple(rows))

    def test_bad_row_of_the_first_that_is_none(self):
        house, book = book_of("f = 1")
        for text in ["", "g", "g = x", "g = ( add 1 )", "g = 1 ", "add = 1", "g = 1 ; h = 2", "g = 1000003", "\ud800",
                     "g x = " + "( g " * 8 + "x" + " )" * 8, "( " * 900]:
            for rows in [[text], ["g = 1", text], [text, "g = 1"], ["g = 1", text, "=", "g"], [text, text]]:
                self.told(house, book, BadRow, text, rows)

    def test_twice(self):
        house, book = book_of("f = 1")
        self.told(house, book, Twice, "g", ["g = 1", "g = 2"])
        self.told(house, book, Twice, "g", ["g = 1", "g = 1"])
        self.told(house, book, Twice, "h", ["g = 1", "h = 2", "h = 3", "g = 4"])
        self.told(house, book, Twice, "g", ["h = 2", "g = 1", "k = 3", "g = 4", "h = 5"])

    def test_known(self):
        house, book = book_of(["f = 1", "g = 2"])
        self.told(house, book, Known, "f", ["f = 1"])
        self.told(house, book, Known, "g", ["h = 1", "g = 2", "f = 3"])
        self.told(house, book, Known, "f", ["h = 1", "f = ( f )", "g = 3"])

    def test_no_name(self):
        house, book = book_of("f = 1")
        self.told(house, book, NoName, "h", ["g = ( h )"])
        self.told(house, book, NoName, "h", ["g = ( add ( f ) ( h ( k ) ) )"])
        self.told(house, book, NoName, "p", ["g = ( m )", "m = ( p )", "n = ( q )"])
        # A name that leads nowhere any more, and an argument that isn't called.
        book.drop("f")
        self.told(house, book, NoName, "f", ["g = ( f )"])
        self.told(house, book, NoName, "x", ["g x = ( x x )"])

    def test_no_mark(self):
        house, book = book_of("f = 1")
        self.told(house, book, NoMark, "zzzzzz", ["g = ( #zzzzzz )"])
        self.told(house, book, NoMark, "000000", ["g = ( add ( f ) ( #000000 ( #zzzzzz ) ) )"])
        # The mark of a row that's told along with it isn't there yet.
        self.told(house, book, NoMark, mark("0:2"), [f"g = ( #{mark('0:2')} )", "h = 2"])
        self.told(house, book, NoMark, mark("0:2"), ["h = 2", f"g = ( #{mark('0:2')} )"])

    def test_bad_call_names_the_row_that_calls(self):
        house, book = book_of("f = 1", "inc x = ( add x 1 )")
        for call in ["( f 1 )", "( inc )", "( inc 1 2 )", f"( #{ONE} 1 )", "( g x x )", "( g )", "( h 1 )", "( h 1 2 3 )"]:
            self.told(house, book, BadCall, "g", [f"g x = {call}", "h x y = ( add x y )"])
            self.told(house, book, BadCall, "k", ["g x = ( inc x )", "h x y = ( add x y )", f"k x = ( inc {call} )"])
        self.told(house, book, BadCall, "h", ["g = ( h )", "h = ( g 1 )", "k = ( g 1 2 )"])

    def test_row_by_row_call_by_call_a_call_ahead_of_its_parts(self):
        house, book = book_of("f = 1", "inc x = ( add x 1 )")
        none, missing, wrong = ("( no )", NoName, "no"), ("( #zzzzzz )", NoMark, "zzzzzz"), ("( f 1 )", BadCall, "g")
        for first, second in itertools.permutations([none, missing, wrong], 2):
            self.told(house, book, first[1], first[2], [f"g = ( add {first[0]} {second[0]} )"])
            self.told(house, book, first[1], first[2], [f"g = ( inc ( add ( f ) {first[0]} ) )", f"h = {second[0]}"])
            self.told(house, book, first[1], first[2], [f"g = ( if 0 ( inc {first[0]} ) {second[0]} )"])
            outer = first[0].replace(" 1 )", " )").replace(" )", f" {second[0]} )")
            self.told(house, book, first[1], first[2], [f"g = {outer}"])
        # The call with wrong parts goes ahead of what stands in these.
        self.told(house, book, BadCall, "g", ["g = ( inc ( no ) ( #zzzzzz ) )"])
        self.told(house, book, BadCall, "g", ["g = ( h ( no ) )", "h = ( #zzzzzz )"])
        self.told(house, book, NoName, "no", ["g = ( inc ( no ( #zzzzzz ) ) )"])

    def test_taken_by_one_that_is_there(self):
        house, book = book_of()
        house.put(forged(ONE))
        self.told(house, book, Taken, ONE, ["f = 1"])
        self.told(house, book, Taken, ONE, ["g = ( add 1 1 )", "f = 1", "h = ( f )"])
        self.assertEqual(book.tell(["g = ( add 1 1 )"]), [("g", mark("0:(add 1 1)"))])

    def test_taken_of_the_least(self):
        rows = [f"n{letter} = {at}" for at, letter in enumerate("abcdefgh")]
        marks = told_bodies(rows)
        for some in [marks[2:4], marks[3:7], marks[::-1], [marks[6], marks[1]]]:
            house, book = book_of()
            for known in some:
                house.put(forged(known))
            self.told(house, book, Taken, min(some), rows)
            self.told(house, book, Taken, min(some), rows[::-1])

    def test_taken_at_any_place_of_a_ring(self):
        for names in [["even", "odd"], ["odd"], ["even"]]:
            marks = dict(zip(["even", "odd"], told_bodies([EVEN, ODD])))
            house, book = book_of()
            for name in names:
                house.put(forged(marks[name]))
            self.told(house, book, Taken, min(marks[name] for name in names), [EVEN, ODD])

    def test_taken_among_these(self):
        (_, one), (_, other) = forged(ONE)[0], forged(ONE, 1)[0]
        rows = [f"f = ( add {one[1][1]} {one[2][1]} )", f"g = ( add {other[1][1]} {other[2][1]} )"]
        self.assertEqual(told_bodies(rows), [ONE, ONE])
        house, book = book_of()
        self.told(house, book, Taken, ONE, rows)
        self.told(house, book, Taken, ONE, ["h = 1", rows[0]])
        self.told(house, book, Taken, ONE, ["k = ( m )", "m = ( f )", rows[0], "h = 1"])
        self.assertEqual(book.tell([rows[0], rows[0].replace("f", "h")]), [("f", ONE), ("h", ONE)])
        self.told(house, book, Taken, ONE, ["k = 1"])

    def test_taken_among_a_ring(self):
        for numbers in [[158301, 100455, 125678], [264729, 112458, 125678, 126789], [295698, 106392, 125678]]:
            names = ["f", "g", "h", "k"][:len(numbers)]
            rows = [f"{name} = ( add {number} ( {after} ) )"
                    for name, number, after in zip(names, numbers, names[1:] + names[:1])]
            content = tuple(ring_calling(numbers))
            marks = [mark_of(turned_to(content, place)) for place in range(len(content))]
            twice = [known for known in marks if marks.count(known) > 1]
            self.assertEqual(len(twice), 2)
            house, book = book_of()
            self.told(house, book, Taken, twice[0], rows)
            self.assertEqual(len(house), 0)

    def test_of_two_that_are_due_the_one_told_first(self):
        house, book = book_of("f = 1")
        house.put(forged(mark("0:2")))
        taken, wrong, known, twice, bad = "m = 2", "p = ( f 1 )", "f = 3", "m = 4", "q = ="
        self.told(house, book, Taken, mark("0:2"), [taken])
        self.told(house, book, BadCall, "p", [taken, wrong])
        self.told(house, book, NoName, "no", [taken, "q = ( no )", wrong])
        self.told(house, book, Known, "f", [wrong, taken, known])
        self.told(house, book, Twice, "m", [known, wrong, taken, twice])
        self.told(house, book, BadRow, bad, [known, wrong, taken, twice, bad])
        for refused in [[taken], [taken, wrong], [known], [taken, twice], [bad]]:
            with self.assertRaises(REFUSALS):
                book.tell(refused)
        self.assertEqual(book.tell(["g = ( f )"]), [("g", mark(f"0:(#{ONE})"))])
        self.assertEqual(len(book), 2)


class TestNames(BookTest):
    def test_give(self):
        house, book = book_of("f = 1", "g = 2")
        self.assertIsNone(book.give("h", ONE))
        self.assertEqual(book.names(), [("f", ONE), ("g", mark("0:2")), ("h", ONE)])
        self.assertEqual(book.names_of(ONE), ["f", "h"])
        self.assertEqual(len(book), 3)
        self.assertEqual(len(house), 2)

    def test_give_refused(self):
        house, book = book_of("f = 1")
        for text in TEXTS + ["if", "times", "f "]:
            if text in ("zz", "abcdefgh", "zzzzzz"):
                self.refused(house, book, NoMark, "zzzzzz", book.give, text, "zzzzzz")
            else:
                self.refused(house, book, BadName, text, book.give, text, ONE)
                self.refused(house, book, BadName, text, book.give, text, "zzzzzz")
        self.refused(house, book, Known, "f", book.give, "f", ONE)
        self.refused(house, book, Known, "f", book.give, "f", "zzzzzz")
        for text in TEXTS:
            self.refused(house, book, NoMark, text, book.give, "g", text)

    def test_drop(self):
        house, book = book_of("f = 1", "g = ( f )", "h = 1")
        self.assertIsNone(book.drop("f"))
        self.assertEqual([name for name, _ in book.names()], ["g", "h"])
        self.assertEqual(book.names_of(ONE), ["h"])
        self.assertEqual(len(house), 2)
        self.assertEqual(ran(house, book.mark("g"), [])[0], 1)
        self.refused(house, book, NoName, "f", book.drop, "f")
        self.assertEqual(book.tell(["f = 3"]), [("f", mark("0:3"))])
        self.assertEqual(len(book), 5)

    def test_drop_and_mark_refused(self):
        house, book = book_of("f = 1")
        for text in TEXTS + ["ff", "f ", "F"]:
            self.refused(house, book, NoName, text, book.drop, text)
            self.refused(house, book, NoName, text, book.mark, text)
        self.assertEqual(book.mark("f"), ONE)

    def test_names_rise(self):
        for order in itertools.permutations(["f = 1", "b = 2", "bb = 3", "z = 4"]):
            book = book_of(*order)[1]
            self.assertEqual([name for name, _ in book.names()], ["b", "bb", "f", "z"])

    def test_several_names_of_one_mark(self):
        house, book = book_of("z = 1", "a = 1", "m = 1", "f = 2")
        self.assertEqual(book.names_of(ONE), ["a", "m", "z"])
        book.give("c", ONE)
        book.drop("m")
        self.assertEqual(book.names_of(ONE), ["a", "c", "z"])
        self.assertEqual(book.names_of(mark("0:2")), ["f"])
        book.drop("f")
        self.assertEqual(book.names_of(mark("0:2")), [])
        for text in TEXTS:
            self.assertEqual(book.names_of(text), [])

    def test_what_is_told_is_the_askers(self):
        house, book = book_of("f = 1", [EVEN, ODD])
        kept = all_of(book)
        for told in [book.names(), book.names_of(ONE), book.rows("even")]:
            self.assertIs(type(told), list)
            told.append("changed")
            told.reverse()
        self.assertEqual(all_of(book), kept)
        self.assertEqual([type(pair) for pair in book.names()], [tuple] * 3)


class TestRows(BookTest):
    def test_alone(self):
        house, book = book_of("f = 1", "g x y = ( add y ( g x ( less y 1 ) ) )")
        self.assertEqual(book.rows("f"), ["f = 1"])
        self.assertEqual(book.rows("g"), ["g a b = ( add b ( g a ( less b 1 ) ) )"])

    def test_a_ring_by_the_places_of_the_names_content(self):
        house, book = book_of([EVEN, ODD])
        even, odd = "even a = ( if a ( odd ( less a 1 ) ) 1 )", "odd a = ( if a ( even ( less a 1 ) ) 0 )"
        self.assertEqual(book.rows("even"), [even, odd])
        self.assertEqual(book.rows("odd"), [odd, even])
        house, book = book_of(["f = ( add ( h ) ( g ) )", "g = ( f )", "h = ( times ( g ) 2 )"])
        rows = {"f": "f = ( add ( h ) ( g ) )", "g": "g = ( f )", "h": "h = ( times ( g ) 2 )"}
        for name, order in [("f", "fhg"), ("g", "gfh"), ("h", "hgf")]:
            self.assertEqual(book.rows(name), [rows[other] for other in order])

    def test_each_by_its_least_name(self):
        house, book = book_of([EVEN, ODD], "ten = ( odd 10 )")
        book.give("pair", book.mark("even"))
        book.give("a", book.mark("odd"))
        self.assertEqual(book.rows("even"), ["even a = ( if a ( a ( less a 1 ) ) 1 )",
                                             "a a = ( if a ( even ( less a 1 ) ) 0 )"])
        # The asked name isn't the least of its mark.
        self.assertEqual(book.rows("pair"), book.rows("even"))
        self.assertEqual(book.rows("odd"), book.rows("a"))
        self.assertEqual(book.rows("ten"), ["ten = ( a 10 )"])
        book.drop("even")
        self.assertEqual(book.rows("a"), ["a a = ( if a ( pair ( less a 1 ) ) 0 )",
                                          "pair a = ( if a ( a ( less a 1 ) ) 1 )"])

    def test_calls_by_marks_where_no_name_leads(self):
        house, book = book_of("one = 1", "f x = ( add x ( one ) )", "g = ( f ( f ( one ) ) )")
        kept = book.mark("f")
        book.drop("one")
        self.assertEqual(book.rows("f"), [f"f a = ( add a ( #{ONE} ) )"])
        self.assertEqual(book.rows("g"), [f"g = ( f ( f ( #{ONE} ) ) )"])
        book.drop("f")
        self.assertEqual(book.rows("g"), [f"g = ( #{kept} ( #{kept} ( #{ONE} ) ) )"])
        book.give("z", ONE)
        self.assertEqual(book.rows("g"), [f"g = ( #{kept} ( #{kept} ( z ) ) )"])

    def test_refused(self):
        house, book = book_of(["f = ( add ( h ) ( g ) )", "g = ( f )", "h = ( times ( g ) 2 )"], "one = 1")
        f, g, h = led_by(book, "f", "g", "h")
        for text in TEXTS + ["ff"]:
            self.refused(house, book, NoName, text, book.rows, text)
        book.drop("g")
        self.refused(house, book, Nameless, g, book.rows, "f")
        self.refused(house, book, NoName, "g", book.rows, "g")
        book.drop("h")
        # By the places of the name's content h stands ahead of g.
        self.refused(house, book, Nameless, h, book.rows, "f")
        self.assertEqual(book.rows("one"), ["one = 1"])
        book.drop("f")
        book.give("g", g)
        self.refused(house, book, Nameless, f, book.rows, "g")
        book.give("k", f)
        self.refused(house, book, Nameless, h, book.rows, "g")
        book.give("m", h)
        self.assertEqual(book.rows("g"), ["g = ( k )", "k = ( add ( m ) ( g ) )", "m = ( times ( g ) 2 )"])

    def test_told_to_another_book_they_lead_to_the_same_marks(self):
        chance = random.Random(62)
        asked = 0
        for _ in range(40):
            house, book = book_of()
            for names in [["f", "g", "h"], ["k", "m"], ["n"]]:
                manies = {name: house.content(known)[0][0] for name, known in book.names()}
                manies.update({name: chance.choice([0, 1, 2]) for name in names})
                try:
                    book.tell([some_row(chance, name, manies, {}, manies[name]) for name in names])
                except BadCall:
                    pass
            for name, known in book.names():
                rows = book.rows(name)
                told = [row.split(" ")[0] for row in rows]
                other = Book(house.like())
                for called, led in book.names():
                    if called not in told:
                        other.give(called, led)
                self.assertEqual(other.tell(rows), [(again, book.mark(again)) for again in told])
                self.assertEqual(book.mark(told[0]), known)
                asked += 1
        self.assertGreater(asked, 100)

    def test_rows_that_are_longer_than_those_that_were_told(self):
        house, book = book_of(["f = " + "( add ( g ) " * 7 + "( g )" + " )" * 7, "g = 1"])
        book.drop("g")
        row = book.rows("f")[0]
        self.assertGreater(len(row), 150)
        other = Book(house)
        self.assertEqual(other.tell([row]), [("f", book.mark("f"))])

    def test_names_that_are_also_the_args_of_rows(self):
        house, book = book_of(["a x = ( b x x )", "b x y = ( a ( add x y ) )"])
        self.assertEqual(book.rows("a"), ["a a = ( b a a )", "b a b = ( a ( add a b ) )"])
        self.assertEqual(Book(House()).tell(book.rows("b")), [(name, book.mark(name)) for name in ["b", "a"]])

    def test_twelve_in_a_ring(self):
        names = ["n" + letter for letter in "abcdefghijkl"]
        house, book = book_of(ring_rows(names))
        for at, name in enumerate(names):
            rows = book.rows(name)
            self.assertEqual([row.split(" ")[0] for row in rows], names[at:] + names[:at])
            self.assertEqual(sorted(Book(House()).tell(rows)), book.names())


class TestUndo(BookTest):
    def test_where_there_is_none(self):
        house, book = book_of()
        for _ in range(3):
            self.assertIs(book.undo(), False)
        self.assertEqual(all_of(book), (0, []))

    def test_each_deed_to_the_beginning(self):
        house, book = book_of()
        states = [all_of(book)]
        for deed in [lambda: book.tell(["f = 1", "g x = ( add x ( f ) )"]), lambda: book.give("h", book.mark("f")),
                     lambda: book.update(["f = 2"]), lambda: book.drop("h"), lambda: book.tell([EVEN, ODD]),
                     lambda: book.update(["f = 2"]), lambda: book.drop("even"), lambda: book.give("even", book.mark("g"))]:
            deed()
            states.append(all_of(book))
        branch = book.branch()
        branch.tell(["k = 7"])
        branch.drop("g")
        book.take_in(branch)
        states.append(all_of(book))
        many = len(house)
        self.assertEqual([len_of for len_of, _ in states], list(range(10)))
        for state in states[-2::-1]:
            self.assertIs(book.undo(), True)
            self.assertEqual(all_of(book), state)
            # Contents stay.
            self.assertEqual(len(house), many)
        self.assertIs(book.undo(), False)
        self.assertEqual(book.names(), [])

    def test_what_is_undone_may_be_done_again(self):
        house, book = book_of([EVEN, ODD])
        kept = book.names()
        book.undo()
        self.assertEqual(book.tell([ODD, EVEN])[::-1], kept)
        book.update(["even x = 1"])
        book.undo()
        self.assertEqual(book.names(), kept)
        book.drop("odd")
        book.undo()
        self.assertEqual((book.names(), len(book)), (kept, 1))

    def test_what_was_refused_and_what_asks_is_no_deed(self):
        house, book = book_of("f = 1")
        for do, handed in [(book.tell, ["f = 2"]), (book.tell, ["g = ( h )"]), (book.update, ["g = 2"]),
                           (book.update, ["f = ("])]:
            with self.assertRaises(REFUSALS):
                do(handed)
        for do, handed in [(book.give, ("f", ONE)), (book.give, ("g", "zzzzzz")), (book.drop, ("g",))]:
            with self.assertRaises(REFUSALS):
                do(*handed)
        for ask in [book.names, book.like, book.branch]:
            ask()
        for ask, handed in [(book.mark, "f"), (book.rows, "f"), (book.names_of, ONE)]:
            ask(handed)
        self.assertEqual(len(book), 1)
        self.assertIs(book.undo(), True)
        self.assertEqual(book.names(), [])

    def test_a_deed_that_leads_nothing_elsewhere_stands_too(self):
        house, book = book_of("f = 1")
        self.assertEqual(book.update(["f = 1"]), ([], []))
        self.assertEqual(book.take_in(book.branch()), [])
        self.assertEqual(len(book), 3)
        self.assertEqual([book.undo() for _ in range(4)], [True, True, True, False])

    def test_some_deeds_undone(self):
        chance = random.Random(63)
        for _ in range(30):
            house, book = book_of()
            states = [book.names()]
            for step in range(12):
                manies = {name: house.content(known)[0][0] for name, known in book.names()}
                name = chance.choice(["f", "g", "h", "k"])
                try:
                    if name not in manies:
                        book.tell([some_row(chance, name, manies, {})])
                    elif chance.random() < 0.7:
                        book.update([some_row(chance, name, manies, {})])
                    else:
                        book.drop(name)
                    states.append(book.names())
                except REFUSALS:
                    pass
                self.assertEqual(len(book), len(states) - 1)
                self.assertEqual(unwound(book), states[-2::-1])
                if chance.random() < 0.2 and len(states) > 1:
                    self.assertIs(book.undo(), True)
                    states.pop()
                    self.assertEqual(book.names(), states[-1])


class TestLike(BookTest):
    def test_a_like(self):
        house, book = book_of([EVEN, ODD], "f = 1")
        book.drop("f")
        other = book.like()
        self.assertIs(type(other), Book)
        self.assertIsNot(other, book)
        self.assertEqual((all_of(other), unwound(other)), (all_of(book), unwound(book)))

    def test_each_goes_on_by_itself(self):
        house, book = book_of("f = 1")
        other = book.like()
        other.tell(["g = 2"])
        book.tell(["h = 3"])
        self.assertEqual([name for name, _ in book.names()], ["f", "h"])
        self.assertEqual([name for name, _ in other.names()], ["f", "g"])
        self.assertEqual((book.undo(), book.undo(), book.undo()), (True, True, False))
        self.assertEqual(([name for name, _ in other.names()], len(other)), (["f", "g"], 2))
        other.undo()
        other.drop("f")
        self.assertEqual(unwound(other), [[("f", ONE)], []])
        self.assertEqual(book.names(), [])

    def test_of_the_same_house(self):
        house, book = book_of("f = 1")
        other = book.like()
        known = other.tell(["g = 2"])[0][1]
        self.assertIs(house.has(known), True)
        book.give("k", known)
        other.undo()
        self.assertEqual(len(house), 2)

    def test_of_an_empty_one(self):
        house, book = book_of()
        other = book.like()
        other.tell(["f = 1"])
        self.assertEqual((len(book), book.names()), (0, []))
        self.assertEqual((len(other.like()), len(other)), (1, 1))

    def test_two_to_which_the_same_is_done(self):
        one, other = book_of()[1], book_of()[1]
        for deed in [lambda book: book.tell([EVEN, ODD]), lambda book: book.tell([EVEN]), lambda book: book.drop("odd"),
                     lambda book: book.update(["even x y = 1"]), lambda book: book.give("f", "zzzzzz"),
                     lambda book: book.undo(), lambda book: book.tell(["odd = 1", "k = ( even 1 )"])]:
            told = []
            for book in [one, other]:
                try:
                    told.append(deed(book))
                except REFUSALS as refusal:
                    told.append((type(refusal), refusal.what))
            self.assertEqual(told[0], told[1])
            self.assertEqual((all_of(one), unwound(one)), (all_of(other), unwound(other)))


class TestAsBodiesTell(unittest.TestCase):
    def test_some_rows(self):
        chance = random.Random(64)
        for _ in range(150):
            names = ["f", "g", "h", "k", "m"][:chance.randint(1, 5)]
            manies = {name: chance.choice([0, 1, 2]) for name in names}
            rows = [some_row(chance, name, manies, {}, manies[name]) for name in names]
            book, slow = book_of()[1], SlowBook()
            try:
                told = book.tell(rows)
            except BadCall as refusal:
                with self.assertRaises(BadCall) as caught:
                    slow.tell(rows)
                self.assertEqual(caught.exception.what, refusal.what)
                continue
            self.assertEqual(told, list(zip(names, told_bodies(rows))))
            self.assertEqual(told, slow.tell(rows))

    def test_bodies_by_hand(self):
        self.assertEqual(told_bodies([EVEN, ODD]), [mark_of(content) for content in contents_of(
            bodies_in("1:(if a (@1 (less a 1)) 1);1:(if a (@0 (less a 1)) 0)"))])


if __name__ == "__main__":
    unittest.main()
