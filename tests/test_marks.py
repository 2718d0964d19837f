"""[6]: the signs, and the marks of texts."""

import unittest

from contentnames.marks import SIGNS, mark_of_text

FIGURES_AND_LETTERS = "0123456789abcdefghijklmnopqrstuvwxyz"


def reckoned(text):
    """The number of [6] by the powers of 131, without leaving anything out until the end."""
    number = 7 * 131 ** len(text)
    for place, sign in enumerate(text):
        number += (SIGNS.index(sign) + 1) * 131 ** (len(text) - 1 - place)
    return number % 998244353


class TestSigns(unittest.TestCase):
    def test_the_signs_in_their_order(self):
        self.assertEqual(SIGNS, "0123456789abcdefghijklmnopqrstuvwxyz #@();:")
        self.assertEqual(SIGNS[:36], FIGURES_AND_LETTERS)
        self.assertEqual([SIGNS.index(sign) for sign in " #@();:"], [36, 37, 38, 39, 40, 41, 42])
        self.assertEqual(len(SIGNS), 43)


class TestMarkOfText(unittest.TestCase):
    def test_the_mark_that_the_document_tells(self):
        self.assertEqual(mark_of_text("0:1"), "09ds21")

    def test_the_empty_text(self):
        self.assertEqual(mark_of_text(""), "000007")

    def test_texts_of_one_sign(self):
        # 7 * 131 is 917; "0" adds 1, "z" 36, ":" 43.
        self.assertEqual(mark_of_text("0"), "0000pi")
        self.assertEqual(mark_of_text("z"), "0000qh")
        self.assertEqual(mark_of_text(" "), "0000qi")
        self.assertEqual(mark_of_text(":"), "0000qo")

    def test_every_sign_has_its_own_mark_in_the_order_of_signs(self):
        marks = [mark_of_text(sign) for sign in SIGNS]
        self.assertEqual([int(mark, 36) for mark in marks], list(range(918, 961)))

    def test_what_is_left_over_is_kept(self):
        # 7 * 131 ** 4 is beyond 998,244,353, 7 * 131 ** 3 is not.
        self.assertEqual(int(mark_of_text("000"), 36), 7 * 131 ** 3 + 131 ** 2 + 131 + 1)
        self.assertEqual(int(mark_of_text("0000"), 36),
                         (7 * 131 ** 4 + 131 ** 3 + 131 ** 2 + 131 + 1) % 998244353)

    def test_long_texts(self):
        texts = [SIGNS[:long % 44] * (long // 43 + 1) for long in range(1, 400, 7)]
        texts += [sign * 2000 for sign in SIGNS] + [(SIGNS * 47)[:2000], (SIGNS[::-1] * 47)[:2000]]
        for text in texts:
            with self.subTest(text[:20], long=len(text)):
                self.assertEqual(int(mark_of_text(text), 36), reckoned(text))

    def test_six_signs_always_noughts_ahead(self):
        texts = ["", "0", "00", "000", "0000", "0:1", "1:a", "2:(add a b)", "0:(#0k3f9a 1);1:(@0 a)", "z" * 2000]
        for text in texts:
            with self.subTest(text[:20]):
                mark = mark_of_text(text)
                self.assertIsInstance(mark, str)
                self.assertEqual(len(mark), 6)
                self.assertTrue(set(mark) <= set(FIGURES_AND_LETTERS))

    def test_no_mark_is_beyond_the_greatest_number_that_is_left_over(self):
        # 998,244,352 to the base 36 is "gibu9s".
        marks = [mark_of_text(str(number) * 5) for number in range(3000)]
        self.assertTrue(all("000000" <= mark <= "gibu9s" for mark in marks))
        self.assertTrue(any(mark.startswith("0") for mark in marks))
        self.assertTrue(any(mark.startswith("g") for mark in marks))

    def test_the_order_of_signs_counts(self):
        self.assertNotEqual(mark_of_text("ab"), mark_of_text("ba"))

    def test_asking_again_tells_the_same(self):
        self.assertEqual(mark_of_text("0:1;"), mark_of_text("0:1;"))


if __name__ == "__main__":
    unittest.main()
