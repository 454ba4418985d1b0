"""Point 8: the formats of numbers."""

import itertools
import unittest

from partlabels.errors import BadNumber, BadText
from partlabels.formats import figures, letters, read_figures, read_letters

ALPHABET = "abcdefghijklmnopqrstuvwxyz"
NO_NUMBERS = [-1, -2, -26, -10 ** 30, True, False, "", "1", "a", "-", None, [], [1], (), (1,), {}, {1: 1},
              1.0, 0.0, 2.5, b"1", set(), object(), int, float("nan"), float("inf")]


def first_word(length):
    """The number of the first word of a length."""
    return sum(26 ** shorter for shorter in range(1, length)) + 1


def numbers():
    """Numbers of all sizes, with those at which texts get longer."""
    found = list(range(2000)) + [18278, 18279, 123456789, 987654321012345678901234567890]
    for exponent in range(1, 80):
        for base in (2, 10, 26):
            found.extend([base ** exponent - 1, base ** exponent, base ** exponent + 1])
    for length in range(1, 40):
        found.extend([first_word(length) - 1, first_word(length), first_word(length) + 1])
    return found


class Writing(unittest.TestCase):
    def test_figures(self):
        for number in numbers():
            self.assertEqual(figures(number), str(number))

    def test_powers_of_ten(self):
        for exponent in [1, 2, 29, 30, 59, 60, 61, 119, 120, 121, 179, 180, 181, 240]:
            with self.subTest(exponent):
                self.assertEqual(figures(10 ** exponent), "1" + "0" * exponent)
                self.assertEqual(figures(10 ** exponent - 1), "9" * exponent)
                self.assertEqual(figures(10 ** exponent + 1), "1" + "0" * (exponent - 1) + "1")

    def test_letters_in_order(self):
        words = ["-"]
        for length in (1, 2, 3):
            words.extend("".join(word) for word in itertools.product(ALPHABET, repeat=length))
        for number, word in enumerate(words):
            self.assertEqual(letters(number), word)

    def test_first_and_last_words(self):
        for length in range(1, 40):
            with self.subTest(length):
                self.assertEqual(letters(first_word(length)), "a" * length)
                self.assertEqual(letters(first_word(length) + 1), "a" * (length - 1) + "b")
                self.assertEqual(letters(first_word(length + 1) - 1), "z" * length)
                self.assertEqual(letters(first_word(length + 1) - 2), "z" * (length - 1) + "y")

    def test_thirty_digits(self):
        self.assertEqual(figures(10 ** 30 - 1), "9" * 30)
        self.assertEqual(figures(123456789012345678901234567890), "123456789012345678901234567890")
        # Built up by hand from the places of the word, the last one first.
        word, left = "", 123456789012345678901234567890
        while left:
            left, place = (left - 1) // 26, (left - 1) % 26
            word = ALPHABET[place] + word
        self.assertEqual(letters(123456789012345678901234567890), word)

    def test_results_of_any_size(self):
        self.assertEqual(figures(10 ** 5000), "1" + "0" * 5000)
        self.assertEqual(figures(10 ** 9000 - 1), "9" * 9000)
        self.assertEqual(letters(first_word(5000)), "a" * 5000)

    def test_bad_numbers(self):
        for write in (figures, letters):
            for value in NO_NUMBERS:
                with self.subTest(write.__name__, value=value):
                    with self.assertRaises(BadNumber) as caught:
                        write(value)
                    self.assertIs(caught.exception.number, value)
            with self.assertRaises(BadNumber) as caught:
                write(-10 ** 6000)
            self.assertEqual(caught.exception.number, -10 ** 6000)

    def test_by_name(self):
        self.assertEqual((figures(number=40), letters(number=40)), ("40", "an"))


class Reading(unittest.TestCase):
    def test_what_was_written(self):
        for number in numbers():
            self.assertEqual(read_figures(figures(number)), number)
            self.assertEqual(read_letters(letters(number)), number)

    def test_results_of_any_size(self):
        for number in [10 ** 5000, 10 ** 5000 - 1, first_word(4300)]:
            self.assertEqual(read_figures(figures(number)), number)
            self.assertEqual(read_letters(letters(number)), number)

    def test_integers(self):
        for found in [read_figures("0"), read_figures("1"), read_letters("-"), read_letters("a")]:
            self.assertIs(type(found), int)
        self.assertEqual([read_figures("0"), read_figures("10"), read_letters("-"), read_letters("az")],
                         [0, 10, 0, 52])

    def assert_bad(self, read, text):
        with self.subTest(read.__name__, text=text):
            with self.assertRaises(BadText):
                read(text)

    def test_bad_figures(self):
        for text in ["", "00", "01", "007", "0" * 30, "0123", "-", "-0", "-1", "+1", "+0", " 1", "1 ", "1 2", " ",
                     "1\n", "\n1", "\n", "1_000", "1,000", "1.0", "1.", ".1", "1e3", "0x1", "0b1", "a", "1a", "a1",
                     "ten", "{1}", "~", "/", ":", "1:", "/1", "\u0661", "\xb2", "1\xb2", "\uff11"]:
            self.assert_bad(read_figures, text)

    def test_bad_letters(self):
        for text in ["", "--", "-a", "a-", "a-b", "A", "Z", "aB", "Ba", "0", "1", "a1", "1a", " ", " a", "a ", "a b",
                     "a\n", "\na", "\n", "a_", "_", "`", "{", "a{", "`a", "@", "[", ".", "a.b", "+", "a+", "\xe9",
                     "a\xe9", "\xdf", "\xaa", "\u0430"]:
            self.assert_bad(read_letters, text)

    def test_every_short_text(self):
        written = {figures(number): number for number in range(1000)}
        worded = {letters(number): number for number in range(first_word(4))}
        for length in range(4):
            for signs in itertools.product("019az-A {", repeat=length):
                text = "".join(signs)
                for read, texts in ((read_figures, written), (read_letters, worded)):
                    if text in texts:
                        self.assertEqual(read(text), texts[text])
                    else:
                        self.assert_bad(read, text)

    def test_long_texts_that_are_none(self):
        self.assert_bad(read_figures, "1" * 3999 + "a")
        self.assert_bad(read_figures, "0" * 4000)
        self.assert_bad(read_letters, "a" * 3999 + "1")
        self.assert_bad(read_letters, "-" * 4000)

    def test_by_name(self):
        self.assertEqual((read_figures(text="40"), read_letters(text="an")), (40, 40))


if __name__ == "__main__":
    unittest.main()
