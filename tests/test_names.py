"""Points 2 and 7: names."""

import unittest

from partlabels.names import is_name

NO_LETTERS = ["A", "Z", "Q", "0", "1", "9", " ", "\n", "_", "-", ".", ":", "/", "{", "}", "~", "!",
              "@", "[", "`", "|", "'", '"', "\\", "\t", "\xe9", "\xdf", "\u0430", "\xaa", "\u00b2"]


class Names(unittest.TestCase):
    def test_one_to_eight_letters(self):
        for text in ["a", "z", "m", "ab", "zz", "fig", "part", "table", "figure", "chapter", "sections",
                     "zzzzzzzz", "aaaaaaaa"]:
            with self.subTest(text):
                self.assertIs(is_name(text), True)

    def test_each_letter(self):
        for letter in "abcdefghijklmnopqrstuvwxyz":
            self.assertIs(is_name(letter), True)
            self.assertIs(is_name("ab" + letter), True)

    def test_each_length(self):
        for length in range(60):
            with self.subTest(length):
                self.assertIs(is_name("k" * length), 1 <= length <= 8)
        self.assertIs(is_name("a" * 4000), False)

    def test_other_signs_at_each_place(self):
        for sign in NO_LETTERS:
            self.assertIs(is_name(sign), False)
            for length in range(1, 8):
                for place in range(length + 1):
                    text = "abcdefgh"[:length]
                    text = text[:place] + sign + text[place:]
                    with self.subTest(text):
                        self.assertIs(is_name(text), False)

    def test_by_name(self):
        self.assertIs(is_name(text="section"), True)
        self.assertIs(is_name(text="Section"), False)


if __name__ == "__main__":
    unittest.main()
