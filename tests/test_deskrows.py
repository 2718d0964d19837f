"""[20]: the rows of a desk."""

import random
import unittest

from contentnames.deskrows import deskrow_in
from contentnames.errors import BadRow
from contentnames.rows import is_name, row_in
from contentnames.terms import is_mark
from samples import with_a_sign_changed

WRITTEN = [
    ("tell f = 1", ("tell", ("f = 1",))),
    ("tell f x = ( add x ( g ) ) ; g = 2", ("tell", ("f x = ( add x ( g ) )", "g = 2"))),
    ("update f = 1", ("update", ("f = 1",))),
    ("update f = 1 ; g x y = ( #0k3f9a ) ; h = 3", ("update", ("f = 1", "g x y = ( #0k3f9a )", "h = 3"))),
    ("give f #0k3f9a", ("give", "f", "0k3f9a")),
    ("drop f", ("drop", "f")),
    ("undo", ("undo",)),
    ("mark f", ("mark", "f")),
    ("names", ("names", "")),
    ("names #0k3f9a", ("names", "0k3f9a")),
    ("rows f", ("rows", "f")),
    ("calls f", ("calls", "f")),
    ("leans f", ("leans", "f")),
    ("size", ("size",)),
    ("run f", ("run", "f", ())),
    ("run f 0", ("run", "f", (0,))),
    ("run f 1 20 300 1000002", ("run", "f", (1, 20, 300, 1000002))),
    ("again 1", ("again", 1)),
    ("again 60", ("again", 60)),
]
WORDS = ["tell", "update", "give", "drop", "undo", "mark", "names", "rows", "calls", "leans", "size", "run", "again"]
NAMED = ["drop", "mark", "rows", "calls", "leans"]
NO_NAMES = ["", "abcdefghi", "F", "f1", "1", "#0k3f9a", "=", "(", ";", "\u00e9", "add", "less", "times", "under", "if"]
NO_MARKS = ["", "#", "0k3f9a", "#0k3f9", "#0k3f9ab", "#0K3F9A", "##0k3f9a", "#0k3f9\u00e9", "# 0k3f9a", "f", "#\u0663k3f9a"]
NO_NUMBERS = ["1000003", "00", "01", "-1", "+1", "1.0", "x", "\u0661", "9" * 1900, "#1", "(", "1,"]


class TestDeskrowIn(unittest.TestCase):
    def told(self, text, told):
        self.assertEqual(deskrow_in(text), told, text)
        self.assertIs(type(deskrow_in(text)), tuple)
        self.assertEqual([type(thing) for thing in deskrow_in(text)], [type(thing) for thing in told])

    def refused(self, *texts):
        for text in texts:
            with self.assertRaises(BadRow, msg=text) as caught:
                deskrow_in(text)
            self.assertIs(type(caught.exception), BadRow)
            self.assertEqual(caught.exception.what, text)

    def test_of_each_word(self):
        for text, told in WRITTEN:
            self.told(text, told)
        self.assertEqual({told[0] for _, told in WRITTEN}, set(WORDS))

    def test_words_alone(self):
        for word in WORDS:
            if word not in ("undo", "names", "size"):
                self.refused(word)
            self.refused(word + " ", " " + word, word.upper(), word + "s", word[:-1], word + ";", word + "\n")

    def test_words_that_are_none(self):
        self.refused("", " ", "f", "f = 1", "ask f", "redo", "branch", "take", "like", "put 0:1", "TELL f = 1", "1", "=",
                     "\u0442ell f = 1", "\ud800", "\n", "x" * 2000, "again", "add", "( undo )", "; undo", "undo ; undo")

    def test_blanks(self):
        for text, _ in WRITTEN:
            self.refused(" " + text, text + " ", text + "  ", text + "\n", "\n" + text, "\t" + text)
            for at in range(len(text)):
                if text[at] == " ":
                    self.refused(text[:at] + " " + text[at:], text[:at] + "\t" + text[at + 1:],
                                 text[:at] + "\n" + text[at + 1:], text[:at] + "\u00a0" + text[at + 1:])

    def test_anything_behind(self):
        for text, _ in WRITTEN:
            for behind in ["x", "=", "1", "(", ";", "#0k3f9a", "undo", "; undo", "; "]:
                changed = text + " " + behind
                right = (text == "names" and behind == "#0k3f9a" or text in ("run f", "run f 0") and behind == "1")
                if not right:
                    self.refused(changed)

    def test_rows_one_to_twelve(self):
        for word in ["tell", "update"]:
            rows = [f"n{chr(97 + at)} x = ( add x {at} )" for at in range(15)]
            for many in range(1, 13):
                self.told(word + " " + " ; ".join(rows[:many]), (word, tuple(rows[:many])))
            for many in [13, 14, 15]:
                self.refused(word + " " + " ; ".join(rows[:many]))
            # Alike names and calls of none are no matter of writing.
            self.told(word + " f = 1 ; f = 2", (word, ("f = 1", "f = 2")))

    def test_semicolons(self):
        for word in ["tell", "update"]:
            self.refused(*[word + " " + rows for rows in [
                "", ";", "; ;", "f = 1 ;", "; f = 1", "f = 1 ; ", "f = 1 ; ; g = 2", "f = 1 ;; g = 2", "f = 1; g = 2",
                "f = 1 ;g = 2", "f = 1;g = 2", "f = 1 , g = 2", "f = 1 g = 2", "f = 1 ;  g = 2", "f = 1  ; g = 2", "f = ; g = 2",
                "f = ( g ; 1 )", "f ; x = 1", "; ; ;", " ; ", "f = 1 ; g = 2 ;", "f = 1 \n; g = 2"]])

    def test_rows_that_are_none(self):
        for word in ["tell", "update"]:
            for row in ["f", "f = x", "f = ( add 1 )", "if = 1", "f = 1000003", "f=1", "f x x = 1", "undo", "tell g", "=",
                        "f = " + "( g " * 8 + "1" + " )" * 8, "( " * 900]:
                self.refused(f"{word} {row}", f"{word} g = 1 ; {row}", f"{word} {row} ; g = 1")

    def test_names(self):
        for word in NAMED:
            for name in ["a", "z", "abcdefgh", "tell", "undo", "names", "f"]:
                self.told(f"{word} {name}", (word, name))
            self.refused(*[f"{word} {name}" for name in NO_NAMES])
            self.refused(f"{word} f g", f"{word} f #0k3f9a", f"{word} f 1")

    def test_give(self):
        for name in ["a", "abcdefgh", "give"]:
            for mark in ["000000", "zzzzzz", "0k3f9a"]:
                self.told(f"give {name} #{mark}", ("give", name, mark))
        self.refused(*[f"give {name} #0k3f9a" for name in NO_NAMES])
        self.refused(*[f"give f {mark}" for mark in NO_MARKS])
        self.refused("give f", "give #0k3f9a", "give #0k3f9a f", "give f #0k3f9a #0k3f9a", "give f g #0k3f9a")

    def test_names_of_a_mark(self):
        for mark in ["000000", "zzzzzz", "0k3f9a"]:
            self.told(f"names #{mark}", ("names", mark))
        self.refused(*[f"names {mark}" for mark in NO_MARKS])
        self.refused("names #0k3f9a #0k3f9a", "names f #0k3f9a")

    def test_run(self):
        for name in ["a", "abcdefgh", "run"]:
            for many in range(5):
                self.told(" ".join(["run", name] + ["7"] * many), ("run", name, (7,) * many))
            for many in [5, 6, 20]:
                self.refused(" ".join(["run", name] + ["7"] * many))
        for number in [0, 1, 9, 10, 999999, 1000000, 1000002]:
            self.told(f"run f {number}", ("run", "f", (number,)))
            self.told(f"run f 3 {number} 4", ("run", "f", (3, number, 4)))
        for number in NO_NUMBERS:
            self.refused(f"run f {number}", f"run f 1 {number}", f"run f {number} 1")
        self.refused(*[f"run {name} 1" for name in NO_NAMES])

    def test_again(self):
        for number in range(1, 61):
            self.told(f"again {number}", ("again", number))
        self.refused("again 0", "again 61", "again 62", "again 100", "again 1000002", "again f", "again 1 1", "again 1 2",
                     "again 06", "again 060", "again #1", *[f"again {number}" for number in NO_NUMBERS])

    def test_every_text_with_a_sign_changed(self):
        read = 0
        for changed in with_a_sign_changed([text for text, _ in WRITTEN], "afx016#()= ;"):
            try:
                told = deskrow_in(changed)
            except BadRow as refusal:
                self.assertEqual(refusal.what, changed)
                continue
            read += 1
            word = told[0]
            if word in ("tell", "update"):
                again = " ; ".join(told[1])
                self.assertTrue(all(row_in(row) for row in told[1]))
            elif word == "names":
                again = "#" + told[1] if told[1] else None
            elif word == "give":
                again = told[1] + " #" + told[2]
                self.assertTrue(is_name(told[1]) and is_mark(told[2]))
            elif word == "run":
                again = " ".join([told[1], *map(str, told[2])])
            else:
                again = str(told[1]) if len(told) > 1 else None
            self.assertEqual(word if again is None else word + " " + again, changed)
        self.assertGreater(read, 200)

    def test_some_words_in_a_row(self):
        chance = random.Random(101)
        words = WORDS + ["f", "g", "=", "1", "(", ")", ";", "#0k3f9a", "add", "60", "61", "0"]
        for _ in range(3000):
            text = " ".join(chance.choice(words) for _ in range(chance.randint(1, 5)))
            try:
                told = deskrow_in(text)
            except BadRow as refusal:
                self.assertEqual(refusal.what, text)
                continue
            self.assertEqual(told[0], text.split(" ")[0])

    def test_asking_again_tells_the_same(self):
        for text, told in WRITTEN:
            self.assertEqual([deskrow_in(text) for _ in range(2)], [told] * 2)


if __name__ == "__main__":
    unittest.main()
