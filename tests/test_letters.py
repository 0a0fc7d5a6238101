"""By parts of how few letters machines are parted: examples, edges, plain readings, wrong inputs."""

import random
from itertools import combinations

from missedparts.errors import InvalidNumber, OtherLetters, TooMany
from missedparts.letters import alike_pair, is_alike_pair, least_number
from missedparts.machines import Machine
from missedparts.parts import alike_to
from missedparts.shared import shared
from tests.plain import (
    ALL, EMPTY_TEXT, FEW, LAST, NOTHING, OTHERS, PAIRS, SINGLE, Case, chain, counter, some_machine, texts_over,
)

EXAMPLES = """
>>> from missedparts.machines import Machine
>>> single = Machine("ab", [[1, 0], [2, 1], [2, 2]], [False, True, False])
>>> pairs = Machine("ab", [[1, 0], [2, 1], [3, 2], [3, 3]], [True, False, True, False])
>>> from missedparts.letters import is_alike_pair, least_number
>>> least_number(single, pairs)
2
>>> is_alike_pair(single, pairs, 1, ("a", "aa"))
True
"""
BOUNDS = [("a", 12), ("ab", 5), ("abc", 3)]
SIX = counter("ab", 6, [0])
# Machines that are parted by just as many letters as are looked at, and by more only.
FIVE_LETTERS = (
    Machine("ab", [[0, 1], [2, 3], [1, 4], [4, 3], [4, 4]], [False, False, False, True, False]),
    Machine("ab", [[1, 2], [3, 1], [0, 1], [4, 2], [4, 4]], [False, False, True, False, False]),
)
MORE_LETTERS = [
    (Machine("ab", [[0, 1], [2, 3], [1, 4], [3, 4], [4, 4]], [False, False, False, True, False]),
     Machine("ab", [[1, 2], [3, 1], [2, 1], [2, 4], [0, 3]], [True, False, False, False, True])),
    (Machine("abc", [[1, 2, 3], [2, 0, 1], [3, 0, 2], [3, 3, 3]], [True, True, True, False]),
     Machine("abc", [[1, 1, 2], [1, 1, 1], [0, 3, 3], [3, 1, 3]], [False, False, True, True])),
]


def parts_plain(text, number):
    return frozenset("".join(row) for long in range(number + 1) for row in combinations(text, long))


class Examples(Case):
    def test_as_they_stand_in_the_document(self):
        self.assert_examples(EXAMPLES, 6)


class LeastNumber(Case):
    def test_by_a_plain_reading(self):
        source = random.Random(1)
        seen = {}
        while sum(seen.values()) < 120:
            letters, bound = source.choice(BOUNDS)
            one, other = some_machine(source, letters, 5), some_machine(source, letters, 5)
            found = least_number(one, other)
            if found in (0, None) and source.random() < 0.95:
                continue
            seen[found] = seen.get(found, 0) + 1
            if len(one) <= 4 and len(other) <= 4:
                self.assertEqual(found is None, shared(one, other) is not None)
            self.assertEqual(least_number(other, one), found)
            texts = texts_over(letters, {1: 12, 2: 7, 3: 4}[len(letters)])
            for number in range(4):
                mine = {parts_plain(text, number) for text in texts if one.takes(text)}
                theirs = {parts_plain(text, number) for text in texts if other.takes(text)}
                pair = alike_pair(one, other, min(number, bound))
                if mine & theirs:
                    self.assertIsNotNone(pair)
                self.assertIs(pair is None, found is not None and number >= found)
        self.assertGreater(len(seen), 3)

    def test_edges(self):
        for one, other, expected in [
                (NOTHING, NOTHING, 0), (NOTHING, ALL, 0), (ALL, NOTHING, 0), (ALL, ALL, None), (LAST, ~LAST, None),
                (EMPTY_TEXT, ~EMPTY_TEXT, 1), (SINGLE, EMPTY_TEXT, 1), (SINGLE, ~SINGLE, 2), (PAIRS, ~PAIRS, 3),
                (SINGLE, SINGLE, None), (chain("ab", 3), chain("ab", 2), 3)]:
            self.assertEqual(least_number(one, other), expected)
            self.assertEqual(least_number(other=other, one=one), expected)

    def test_the_bound(self):
        self.assertEqual(least_number(*FIVE_LETTERS), 5)
        self.assertIsNone(alike_pair(*FIVE_LETTERS, 5))
        self.assertIsNotNone(alike_pair(*FIVE_LETTERS, 4))
        for one, other in MORE_LETTERS:
            bound = dict(BOUNDS)[one.letters]
            self.assert_too_many("letters", bound, least_number, one, other)
            self.assert_too_many("letters", bound, least_number, other, one)
            found = alike_pair(one, other, bound)
            self.assertEqual((one.takes(found[0]), other.takes(found[1])), (True, True))
            self.assertGreaterEqual(alike_to(*found), bound)
        self.assertEqual(least_number(chain("abc", 3), chain("abc", 2)), 3)

    def test_many_letters_of_one_kind(self):
        four, five = chain("a", 3), Machine("a", [[1], [2], [3], [4], [4]], [False] * 4 + [True])
        self.assertEqual(least_number(four, five), 4)
        self.assertEqual(alike_pair(four, five, 3), ("aaa", "aaaa"))


class AlikePair(Case):
    def test_what_is_found(self):
        source = random.Random(2)
        found = 0
        while found < 150:
            letters, bound = source.choice(BOUNDS)
            one, other = some_machine(source, letters, 5), some_machine(source, letters, 5)
            number = source.randint(0, bound)
            pair = alike_pair(one, other, number)
            if pair is not None:
                found += 1
                self.assertIs(type(pair), tuple)
                self.assertEqual((one.takes(pair[0]), other.takes(pair[1])), (True, True))
                alike = alike_to(*pair)
                self.assertTrue(alike is None or alike >= number, (pair, number))
                self.assertIs(is_alike_pair(one, other, number, pair), True)

    def test_edges(self):
        for one, other, number, there in [
                (NOTHING, ALL, 0, False), (ALL, NOTHING, 5, False), (ALL, ALL, 5, True), (LAST, ~LAST, 5, True),
                (EMPTY_TEXT, ~EMPTY_TEXT, 0, True), (EMPTY_TEXT, ~EMPTY_TEXT, 1, False), (SINGLE, ~SINGLE, 1, True),
                (SINGLE, ~SINGLE, 2, False), (SINGLE, ~SINGLE, 5, False)]:
            self.assertIs(alike_pair(one, other, number) is not None, there)
            self.assertIs(alike_pair(number=number, other=other, one=one) is not None, there)

    def test_a_number_above_the_bound(self):
        for letters, bound in BOUNDS:
            one, other = counter(letters, 5, [0]), counter(letters, 5, [1])
            self.assertIsNotNone(alike_pair(one, other, bound))
            self.assertIsNotNone(alike_pair(one, one, bound))
            for number in [bound + 1, 10 ** 29]:
                self.assert_too_many("letters", bound, alike_pair, one, other, number)
                self.assert_too_many("letters", bound, alike_pair, one, counter(letters, 1, []), number)


class IsAlikePair(Case):
    def test_by_a_plain_reading(self):
        for letters, most, numbers in [("ab", 5, 6), ("abc", 3, 4)]:
            all_taken = counter(letters, 1, [0])
            texts = texts_over(letters, most)
            for number in range(numbers):
                known = {text: parts_plain(text, number) for text in texts}
                for one in texts:
                    for other in texts:
                        self.assertIs(is_alike_pair(all_taken, all_taken, number, (one, other)), known[one] == known[other])

    def test_middling_texts(self):
        source = random.Random(3)
        for letters in ["a", "ab", "abc"]:
            all_taken = counter(letters, 1, [0])
            for _ in range(150):
                one = "".join([source.choice(letters) for _ in range(source.randint(10, 40))])
                at = source.randint(0, len(one))
                other = one[:at] + source.choice(letters) + one[at + source.randint(0, 1):]
                alike = alike_to(one, other)
                for number in range(0, 42, 3) if alike is None else [alike - 1, alike, alike + 1, alike + 2]:
                    if number >= 0:
                        expected = alike is None or number <= alike
                        self.assertIs(is_alike_pair(all_taken, all_taken, number, (one, other)), expected)

    def test_what_is_taken(self):
        for one, other, number, value, expected in [
                (SINGLE, PAIRS, 1, ("a", "aa"), True), (SINGLE, PAIRS, 1, ("aa", "a"), False),
                (SINGLE, PAIRS, 2, ("a", "aa"), False), (SINGLE, PAIRS, 0, ("a", ""), True),
                (SINGLE, PAIRS, 1, ("a", ""), False), (SINGLE, PAIRS, 0, ("a", "a"), False),
                (SINGLE, SINGLE, 10 ** 29, ("bab", "bab"), True), (SINGLE, SINGLE, 10 ** 29, ("bab", "ba"), False),
                (LAST, ~LAST, 5, ("ab" * 4, "ba" * 4), False), (LAST, ~LAST, 4, ("ab" * 4, "ba" * 4), True),
                (LAST, ~LAST, 4, ("ab" * 9, "ab" * 9 + "a"), True), (NOTHING, ALL, 0, ("", ""), False)]:
            self.assertIs(is_alike_pair(one, other, number, value), expected, (one, other, number, value))
            self.assertIs(is_alike_pair(value=value, number=number, other=other, one=one), expected)

    def test_long_texts(self):
        for number, expected in [(0, True), (4500, True), (4501, False), (9000, False), (10 ** 29, False)]:
            self.assertIs(is_alike_pair(LAST, ~LAST, number, ("ab" * 4500, "ba" * 4500)), expected)
        self.assertIs(is_alike_pair(ALL, ALL, 8999, ("a" * 9000, "a" * 8999)), True)
        self.assertIs(is_alike_pair(ALL, ALL, 9000, ("a" * 9000, "a" * 8999)), False)
        source = random.Random(4)
        one = "".join([source.choice("ab") for _ in range(9000)])
        other = "".join([source.choice("ab") for _ in range(9000)])
        self.assertIs(is_alike_pair(ALL, ALL, 5, (one, other)), True)
        self.assertIs(is_alike_pair(ALL, ALL, 8000, (one, other)), False)

    def test_any_value(self):
        for value in OTHERS + [0, "", "ab", ("",), ("", "", ""), ["", ""], ("", None), (None, ""), ("", "c"), ("A", ""),
                               ("", 0), ("", ["a"]), ("", ("a",)), (("", ""),), {"": ""}, {"", "a"}, (b"", b""), (FEW, "")]:
            self.assertIs(is_alike_pair(ALL, ALL, 0, value), False, value)


class Wrong(Case):
    def test_numbers(self):
        for value in OTHERS + ["", "1", (), (1,), [1]]:
            self.assert_raised(InvalidNumber, {"value": value}, alike_pair, SINGLE, PAIRS, value)
            # Ahead of other letters and too many places.
            self.assert_raised(InvalidNumber, {"value": value}, alike_pair, SIX, counter("abc", 7, []), value)
            self.assert_raised(InvalidNumber, {"value": value}, is_alike_pair, SIX, counter("abc", 7, []), value, None)

    def test_other_letters(self):
        for asked in [least_number, lambda one, other: alike_pair(one, other, 13),
                      lambda one, other: is_alike_pair(one, other, 13, None)]:
            for other in [Machine("a", [[0]], [True]), counter("abc", 6, []), counter("xy", 40, [])]:
                for one in [SINGLE, SIX]:
                    self.assert_raised(OtherLetters, {"one": "ab", "other": other.letters}, asked, one, other)
                    self.assert_raised(OtherLetters, {"one": other.letters, "other": "ab"}, asked, other, one)

    def test_6_places(self):
        for asked in [least_number, lambda one, other: alike_pair(one, other, 13),
                      lambda one, other: is_alike_pair(one, other, 13, None)]:
            for one, other in [(SIX, SINGLE), (SINGLE, SIX), (SIX, SIX), (counter("ab", 40, []), NOTHING)]:
                self.assert_too_many("places", 5, asked, one, other)
        self.assertIsNone(least_number(counter("ab", 5, [0]), counter("ab", 5, [1])))
        self.assertRaises(TooMany, alike_pair, counter("ab", 5, [0]), counter("ab", 5, [1]), 6)

    def test_nothing_is_changed(self):
        one, other, value = eval(repr(SINGLE)), eval(repr(PAIRS)), ["a", "aa"]
        self.assertEqual(alike_pair(one, other, 1), alike_pair(one, other, 1))
        self.assertEqual(least_number(one, other), least_number(one, other))
        self.assertIs(is_alike_pair(one, other, 1, value), False)
        self.assertEqual((one, other, value), (SINGLE, PAIRS, ["a", "aa"]))
