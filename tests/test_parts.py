"""Parts and wholes of texts: examples, edges, a plain reading, wrong inputs."""

import doctest
import random
import unittest
from itertools import combinations, product

from missedparts.errors import InvalidText, PartsError, TooMany
from missedparts.parts import alike_to, common_part, common_whole, how_many_parts, is_part, parts, unlike_part

EXAMPLES = """
>>> from missedparts.parts import alike_to, common_part, common_whole, how_many_parts, is_part, parts, unlike_part
>>> [is_part("ab", "cacb"), how_many_parts("aba"), parts("aba"), unlike_part("abab", "baba"), alike_to("abab", "baba")]
[True, 7, ['', 'a', 'b', 'aa', 'ab', 'ba', 'aba'], 'aab', 2]
>>> [common_part("abc", "bca"), common_whole("abc", "bca"), alike_to("ab", "ab")]
['bc', 'abca', None]
"""
SMALL = "abcdefghijklmnopqrstuvwxyz"
IN_PAIRS = [unlike_part, alike_to, common_part, common_whole]
NO_TEXTS = [
    None, True, False, 0, 1, -1, [], ["a"], ("a",), (), {}, {"a": 1}, {"a"}, b"", b"a", object(), len, str,
    "A", "aB", "a b", " ", "a\n", "\n", "1", "-", "a*", "`", "{", "a" * 300 + "A", "\u00e4",
]


def texts_over(letters, most):
    """All texts over the letters with at most so many letters, the least first."""
    return ["".join(row) for long in range(most + 1) for row in product(letters, repeat=long)]


def all_parts(text):
    """The set of all parts, by leaving letters out."""
    return {"".join(row) for long in range(len(text) + 1) for row in combinations(text, long)}


def place(text):
    """By what texts are compared."""
    return len(text), text


def least(texts):
    return min(texts, key=place)


def longest_least(texts):
    return min(texts, key=lambda text: (-len(text), text))


def plain_alike(one, other):
    """To which number both are alike, straight from the definition; None if the same."""
    if one == other:
        return None
    number = 0
    while {part for part in all_parts(one) if len(part) <= number + 1} == {
            part for part in all_parts(other) if len(part) <= number + 1}:
        number += 1
    return number


class Examples(unittest.TestCase):
    def test_as_they_stand_in_the_document(self):
        test = doctest.DocTestParser().get_doctest(EXAMPLES, {}, "examples", None, 0)
        result = doctest.DocTestRunner().run(test)
        self.assertEqual((result.failed, result.attempted), (0, 3))


class IsPart(unittest.TestCase):
    def test_ordinary(self):
        for text, whole in [("", ""), ("", "a"), ("a", "a"), ("ac", "abc"), ("aa", "aba"), ("log", "ballooning")]:
            self.assertIs(is_part(text, whole), True, (text, whole))
        for text, whole in [("a", ""), ("aa", "a"), ("ba", "ab"), ("aaa", "aba"), ("abc", "acb"), ("d", "abc")]:
            self.assertIs(is_part(text, whole), False, (text, whole))

    def test_by_a_plain_reading(self):
        for letters, most in [("ab", 5), ("abc", 3)]:
            for whole in texts_over(letters, most):
                expected = all_parts(whole)
                for text in texts_over(letters, most):
                    self.assertIs(is_part(text, whole), text in expected, (text, whole))

    def test_long(self):
        self.assertIs(is_part("a" * 4000, "ab" * 4000), True)
        self.assertIs(is_part("a" * 4001, "ab" * 4000), False)
        self.assertIs(is_part("ab" * 2000, "ba" * 2000), False)
        self.assertIs(is_part("ab" * 2000, "ba" * 2001), True)
        self.assertIs(is_part("a" * 9000, "a" * 9000), True)
        self.assertIs(is_part("a" * 9000, "a" * 8999), False)
        self.assertIs(is_part("", SMALL * 300), True)
        self.assertIs(is_part(SMALL[::-1] * 10, SMALL * 260), True)
        self.assertIs(is_part(SMALL[::-1] * 11, SMALL * 260), False)

    def test_by_name(self):
        self.assertIs(is_part(whole="ab", text="b"), True)
        self.assertIs(is_part(whole="b", text="ab"), False)


class HowManyParts(unittest.TestCase):
    def test_ordinary(self):
        for text, many in [("", 1), ("a", 2), ("aa", 3), ("ab", 4), ("abc", 8), ("aab", 6), ("abab", 12)]:
            self.assertEqual(how_many_parts(text), many, text)
        self.assertEqual(how_many_parts(text="aba"), 7)

    def test_by_a_plain_reading(self):
        for letters, most in [("ab", 8), ("abc", 6)]:
            for text in texts_over(letters, most):
                self.assertEqual(how_many_parts(text), len(all_parts(text)), text)

    def test_eleven_letters_are_no_bound(self):
        self.assertEqual(how_many_parts("abcabcabcab"), len(all_parts("abcabcabcab")))

    def test_long(self):
        self.assertEqual(how_many_parts("a" * 9000), 9001)
        self.assertEqual(how_many_parts(SMALL), 2 ** 26)
        self.assertEqual(how_many_parts("a" * 4000 + "b" * 5000), 4001 * 5001)

    def test_long_by_turns(self):
        # The parts of a text of two letters by turns are counted by Fibonacci's numbers.
        now, following = 1, 2
        for long in range(4001):
            if long % 400 == 0:
                self.assertEqual(how_many_parts(("ab" * 2001)[:long]), now)
            now, following = following, now + following + 1


class Parts(unittest.TestCase):
    def test_edges(self):
        self.assertEqual(parts(""), [""])
        self.assertEqual(parts("a"), ["", "a"])
        self.assertEqual(parts("aaaa"), ["", "a", "aa", "aaa", "aaaa"])
        self.assertEqual(parts("ba"), ["", "a", "b", "ba"])
        self.assertEqual(parts(text="zab"), ["", "a", "b", "z", "ab", "za", "zb", "zab"])

    def test_by_a_plain_reading(self):
        for letters, most in [("ab", 7), ("abc", 5), ("xyz", 3)]:
            for text in texts_over(letters, most):
                found = parts(text)
                self.assertIs(type(found), list)
                self.assertEqual(found, sorted(all_parts(text), key=place))
                self.assertEqual(len(found), how_many_parts(text))

    def test_ten_letters(self):
        for text in ["abcdefghij", "jihgfedcba", "aaaaaaaaaa", "ababababab", "abcabcabca"]:
            self.assertEqual(parts(text), sorted(all_parts(text), key=place))

    def test_eleven_letters(self):
        for text in ["abcdefghijk", "a" * 11, "ab" * 500]:
            with self.assertRaises(TooMany) as held:
                parts(text)
            self.assertEqual((held.exception.what, held.exception.limit), ("letters", 10))

    def test_what_was_returned_can_be_changed(self):
        first = parts("aba")
        first.append("c")
        first[0] = None
        self.assertEqual(parts("aba"), ["", "a", "b", "aa", "ab", "ba", "aba"])
        self.assertIsNot(parts("aba"), parts("aba"))


class Unlike(unittest.TestCase):
    def test_edges(self):
        for one, other, part in [
                ("", "", None), ("a", "a", None), ("abc", "abc", None), ("", "a", "a"), ("a", "", "a"),
                ("a", "b", "a"), ("b", "a", "a"), ("c", "b", "b"), ("ba", "cb", "a"), ("ab", "ba", "ab"),
                ("aaa", "aa", "aaa"), ("ab", "abb", "bb"), ("abc", "def", "a"), ("xyz", "w", "w")]:
            expected = None if part is None else len(part) - 1
            self.assertEqual(unlike_part(one, other), part)
            self.assertEqual(alike_to(one, other), expected)

    def test_all_texts_are_alike_to_0(self):
        self.assertEqual(alike_to("a", "b"), 0)
        self.assertEqual(alike_to("", "zz"), 0)

    def test_by_a_plain_reading(self):
        for letters, most in [("ab", 5), ("abc", 3)]:
            texts = texts_over(letters, most)
            known = {text: all_parts(text) for text in texts}
            for one in texts:
                for other in texts:
                    apart = known[one] ^ known[other]
                    self.assertEqual(unlike_part(one, other), least(apart) if apart else None, (one, other))

    def test_alike_by_a_plain_reading(self):
        for letters, most in [("ab", 4), ("abc", 3)]:
            for one in texts_over(letters, most):
                for other in texts_over(letters, most):
                    number = alike_to(one, other)
                    self.assertEqual(number, plain_alike(one, other), (one, other))
                    self.assertEqual(number, alike_to(other, one))
                    if number is not None:
                        self.assertLess(number, max(len(one), len(other)))

    def test_middling_texts_by_a_plain_reading(self):
        source = random.Random(5)
        for letters in ["ab", "abc", "xyz", SMALL]:
            for _ in range(40):
                one = "".join([source.choice(letters) for _ in range(source.randint(6, 10))])
                at = source.randint(0, len(one) - 1)
                other = one[:at] + source.choice(letters) + one[at + source.randint(0, 1):]
                apart = all_parts(one) ^ all_parts(other)
                self.assertEqual(unlike_part(one, other), least(apart) if apart else None, (one, other))

    def test_200_letters(self):
        self.assertEqual(unlike_part("a" * 200, "a" * 199), "a" * 200)
        self.assertEqual(alike_to("a" * 200, "a" * 199), 199)
        self.assertEqual(unlike_part("ab" * 100, "ab" * 100), None)
        self.assertEqual(unlike_part("ab" * 100, "ba" * 100), "a" * 100 + "b")
        self.assertEqual(unlike_part("a" * 200, "b" * 200), "a")
        self.assertEqual(alike_to("", "b" * 200), 0)
        # Both have all texts of 7 letters; one lacks just the falling ones of 8 from s on, other the rising ones.
        many = (SMALL * 8)[:200]
        self.assertEqual(unlike_part(many, many[::-1]), "ssssssst")
        source = random.Random(6)
        for _ in range(10):
            one = "".join([source.choice(SMALL) for _ in range(200)])
            other = "".join([source.choice(SMALL) for _ in range(200)])
            part = unlike_part(one, other)
            self.assertNotEqual(is_part(part, one), is_part(part, other))
            self.assertEqual(alike_to(one, other), len(part) - 1)

    def test_201_letters(self):
        for asked in [unlike_part, alike_to]:
            for one, other in [("a" * 201, "a"), ("a", "a" * 201), ("ab" * 150, "ab" * 150), ("", SMALL * 8)]:
                with self.assertRaises(TooMany) as held:
                    asked(one, other)
                self.assertEqual((held.exception.what, held.exception.limit), ("letters", 200))


class Common(unittest.TestCase):
    def test_edges(self):
        for one, other, part, whole in [
                ("", "", "", ""), ("a", "", "", "a"), ("", "ba", "", "ba"), ("ab", "ab", "ab", "ab"),
                ("a", "b", "", "ab"), ("b", "a", "", "ab"), ("zy", "ab", "", "abzy"), ("ab", "ba", "a", "aba"),
                ("ba", "ab", "a", "aba"), ("aaa", "aa", "aa", "aaa"), ("cab", "bca", "ca", "bcab"),
                ("ac", "bc", "c", "abc"), ("ad", "bc", "", "abcd")]:
            self.assertEqual(common_part(one, other), part)
            self.assertEqual(common_part(other, one), part)
            self.assertEqual(common_whole(one, other), whole)
            self.assertEqual(common_whole(other, one), whole)

    def test_part_by_a_plain_reading(self):
        for letters, most in [("ab", 5), ("abc", 4)]:
            texts = texts_over(letters, most)
            known = {text: all_parts(text) for text in texts}
            for one in texts:
                for other in texts:
                    self.assertEqual(common_part(one, other), longest_least(known[one] & known[other]), (one, other))

    def test_whole_by_a_plain_reading(self):
        for letters, most in [("ab", 4), ("abc", 3)]:
            wholes = texts_over(letters, 2 * most)
            known = {whole: all_parts(whole) for whole in wholes}
            for one in texts_over(letters, most):
                of_one = [whole for whole in wholes if one in known[whole]]
                for other in texts_over(letters, most):
                    expected = next(whole for whole in of_one if other in known[whole])
                    self.assertEqual(common_whole(one, other), expected, (one, other))

    def test_middling_texts_by_a_plain_reading(self):
        source = random.Random(7)
        for letters in ["ab", "abc", "wxyz", "abcdefgh"]:
            for _ in range(40):
                one = "".join([source.choice(letters) for _ in range(source.randint(6, 10))])
                other = "".join([source.choice(letters) for _ in range(source.randint(6, 10))])
                part = longest_least(all_parts(one) & all_parts(other))
                whole = common_whole(one, other)
                self.assertEqual(common_part(one, other), part, (one, other))
                self.assertEqual(len(whole), len(one) + len(other) - len(part))
                self.assertTrue(is_part(one, whole) and is_part(other, whole))

    def test_60_letters(self):
        self.assertEqual(common_part("a" * 60, "a" * 59 + "b"), "a" * 59)
        self.assertEqual(common_whole("a" * 60, "a" * 59 + "b"), "a" * 60 + "b")
        self.assertEqual(common_part("ab" * 30, "ba" * 30), "ab" * 29 + "a")
        self.assertEqual(common_whole("ab" * 30, "ba" * 30), "ab" * 30 + "a")
        self.assertEqual(common_part("a" * 60, "b" * 60), "")
        self.assertEqual(common_whole("b" * 60, "a" * 60), "a" * 60 + "b" * 60)
        same = (SMALL * 3)[:60]
        self.assertEqual((common_part(same, same), common_whole(same, same)), (same, same))

    def test_61_letters(self):
        for asked in [common_part, common_whole]:
            for one, other in [("a" * 61, "a"), ("", "a" * 61), ("ab" * 31, "ab" * 31), ("a" * 60, "a" * 61)]:
                with self.assertRaises(TooMany) as held:
                    asked(one, other)
                self.assertEqual((held.exception.what, held.exception.limit), ("letters", 60))


class Calls(unittest.TestCase):
    def test_arguments_by_name(self):
        self.assertEqual(unlike_part(other="baba", one="abab"), "aab")
        self.assertEqual(alike_to(other="baba", one="abab"), 2)
        self.assertEqual(common_part(other="bca", one="abc"), "bc")
        self.assertEqual(common_whole(other="bca", one="abc"), "abca")

    def test_repeated_calls(self):
        for asked in IN_PAIRS + [is_part]:
            self.assertEqual(asked("abcab", "bcabc"), asked("abcab", "bcabc"))
        self.assertEqual(how_many_parts("abcab"), how_many_parts("abcab"))


class WrongInputs(unittest.TestCase):
    def assert_invalid(self, value, asked, *passed):
        with self.assertRaises(InvalidText) as held:
            asked(*passed)
        self.assertIsInstance(held.exception, PartsError)
        self.assertEqual(held.exception.value, value)
        self.assertIs(type(held.exception.value), type(value))

    def test_one_text(self):
        for asked in [how_many_parts, parts]:
            for value in NO_TEXTS:
                with self.subTest(asked.__name__, value=value):
                    self.assert_invalid(value, asked, value)

    def test_each_of_two_texts(self):
        for asked in IN_PAIRS + [is_part]:
            for value in NO_TEXTS:
                with self.subTest(asked.__name__, value=value):
                    self.assert_invalid(value, asked, value, "ab")
                    self.assert_invalid(value, asked, "ab", value)
                    self.assert_invalid(value, asked, "", value)

    def test_the_first_wrong_one(self):
        for asked in IN_PAIRS + [is_part]:
            self.assert_invalid("A", asked, "A", "B")
            self.assert_invalid(True, asked, True, 1)
            self.assert_invalid(None, asked, None, ["a"])
            self.assert_invalid([None], asked, [None], None)
        with self.assertRaises(InvalidText) as held:
            is_part(whole="B", text="A")
        self.assertEqual(held.exception.value, "A")

    def test_the_same_wrong_value_twice(self):
        for asked in IN_PAIRS + [is_part]:
            self.assert_invalid("A", asked, "A", "A")
            self.assert_invalid(None, asked, None, None)

    def test_ahead_of_too_many(self):
        self.assert_invalid("a" * 11 + "A", parts, "a" * 11 + "A")
        self.assert_invalid(["a"] * 11, parts, ["a"] * 11)
        for asked in IN_PAIRS:
            self.assert_invalid("A", asked, "a" * 201, "A")
            self.assert_invalid(None, asked, None, "a" * 201)
            self.assert_invalid("a" * 201 + "-", asked, "a" * 201 + "-", "a" * 201)
            self.assert_invalid(["a"] * 201, asked, "a" * 201, ["a"] * 201)

    def test_wrong_values_are_not_changed(self):
        value = ["b", "a"]
        for asked in IN_PAIRS + [is_part]:
            self.assert_invalid(["b", "a"], asked, "a", value)
        self.assertEqual(value, ["b", "a"])


if __name__ == "__main__":
    unittest.main()
