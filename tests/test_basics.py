"""Integers, counts, texts and letters."""

import unittest

from missedparts.basics import are_letters, is_count, is_integer, is_over, is_text

OTHERS = [
    None, [], [1], ["a"], ("a",), (), {}, {"a": 1}, {1}, b"", b"ab", object(), len, int, ValueError("a"), range(2),
]
SMALL = "abcdefghijklmnopqrstuvwxyz"


class Asking(unittest.TestCase):
    def assert_answers(self, asked, expected, values):
        for value in values:
            with self.subTest(asked.__name__, value=value):
                self.assertIs(asked(value), expected)
                self.assertIs(asked(value=value), expected)


class Numbers(Asking):
    def test_integers(self):
        self.assert_answers(is_integer, True, [0, 1, -1, 7, 10 ** 29, -10 ** 29])

    def test_no_integers(self):
        self.assert_answers(is_integer, False, OTHERS + [True, False, "", "1", "a"])

    def test_counts(self):
        self.assert_answers(is_count, True, [0, 1, 2, 40, 10 ** 29])

    def test_no_counts(self):
        self.assert_answers(is_count, False, OTHERS + [-1, -10 ** 29, True, False, "", "0", "a"])


class Texts(Asking):
    def test_texts(self):
        self.assert_answers(is_text, True, ["", "a", "z", "ba", "aa", "missed", SMALL, SMALL[::-1], "z" * 9000])

    def test_no_texts(self):
        self.assert_answers(is_text, False, OTHERS + [0, 1, True, False])

    def test_other_characters(self):
        wrong = ["A", "Z", "aB", "a b", " ", "a ", " a", "a\n", "\n", "-", "`", "{", "~", "1", "a1", "a*", "b-", "_"]
        self.assert_answers(is_text, False, wrong + ["a" * 8999 + "A", "\u00e4", "\u0430", "\u00aa", "\ud800"])


class Over(unittest.TestCase):
    def test_texts_over_letters(self):
        for value, letters in [("", "a"), ("a", "a"), ("bab", "ab"), ("abc" * 3000, "abc"), ("", "")]:
            self.assertIs(is_over(value, letters), True)
        for value, letters in [("b", "a"), ("abc", "ab"), ("A", "a"), ("a\n", "ab"), ("a*", "ab"), ("a", "")]:
            self.assertIs(is_over(value, letters), False)

    def test_other_kinds(self):
        for value in OTHERS + [0, True, False]:
            self.assertIs(is_over(value, "ab"), False)


class Letters(Asking):
    def test_letters(self):
        self.assert_answers(are_letters, True, ["a", "m", "z", "ab", "az", "yz", "abc", "amz", "xyz"])

    def test_all_of_one_and_two(self):
        for one in SMALL:
            self.assertIs(are_letters(one), True)
            for other in SMALL:
                self.assertIs(are_letters(one + other), one < other)

    def test_all_of_three_and_more_of_few_letters(self):
        for one in "abcd":
            for two in "abcd":
                for three in "abcd":
                    self.assertIs(are_letters(one + two + three), one < two < three)
                    self.assertIs(are_letters("a" + one + two + three), False)

    def test_no_letters(self):
        self.assert_answers(are_letters, False, ["", "ba", "aa", "aab", "abb", "aba", "acb", "cba", "zza"])
        self.assert_answers(are_letters, False, ["abcd", "wxyz", SMALL, "a" * 9000])

    def test_other_characters(self):
        self.assert_answers(are_letters, False, ["A", "AB", "aB", "Ab", "a b", "12", "a\n", "ab*", " ab", "a{", "`a"])

    def test_other_kinds(self):
        self.assert_answers(are_letters, False, OTHERS + [["a", "b"], ("a", "b"), 0, 1, True, False])


if __name__ == "__main__":
    unittest.main()
