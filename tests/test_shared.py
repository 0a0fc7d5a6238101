"""Shared products: examples, edges, plain readings, wrong inputs."""

import random
from unittest import mock

from missedparts.errors import OtherLetters, TooMany
from missedparts.levels import levels
from missedparts.machines import Machine
from missedparts.shared import is_shared, kept, shared
from missedparts.sums import Sum
from tests.plain import (
    ALL, EMPTY_TEXT, FEW, LAST, NOTHING, OTHERS, PAIRS, SINGLE, Case, chain, counter, is_within_plain, some_machine,
    some_product, texts_over, wholes_plain,
)
from tests.test_products import NO_PRODUCTS

EXAMPLES = """
>>> from missedparts.machines import Machine
>>> from missedparts.levels import levels
>>> from missedparts.shared import is_shared, kept, shared
>>> single = Machine("ab", [[1, 0], [2, 1], [2, 2]], [False, True, False])
>>> pairs = Machine("ab", [[1, 0], [2, 1], [3, 2], [3, 3]], [True, False, True, False])
>>> shared(single, pairs)
>>> last = Machine("ab", [[0, 1], [0, 1]], [False, True])
>>> [shared(last, ~last), kept(last, single), levels(last, ~last)]
[('ab*',), Sum('ab', [('b*', 'a', 'b*')]), None]
"""
EMPTY = Sum("ab", [])
# The places are come to in another sequence than that of their numbers.
TURNED = Machine("ab", [[2, 1], [1, 1], [0, 3], [3, 3]], [False, False, True, True])
FIVE = counter("ab", 5, [0])
ASKED = [kept, shared, lambda one, other: is_shared(one, other, None)]


def is_shared_plain(one, other, pieces):
    """By one text of the product, which is long enough for machines of so few places."""
    text = "".join([piece[:-1] * 9 if piece[-1] == "*" else piece for piece in pieces])
    return all(wholes_plain(machine, [pieces], text) is not None for machine in (one, other))


class Examples(Case):
    def test_as_they_stand_in_the_document(self):
        self.assert_examples(EXAMPLES, 8)


class Kept(Case):
    def test_by_a_plain_reading(self):
        source = random.Random(1)
        for _ in range(250):
            letters = source.choice(["a", "ab", "abc"])
            one, other = some_machine(source, letters, 4), some_machine(source, letters, 4)
            found = kept(one, other)
            self.assert_kept(found.products())
            self.assertEqual(found.letters, letters)
            for pieces in found.products():
                self.assertTrue(is_shared_plain(one, other, pieces), (one, other, pieces))
                self.assertIs(is_shared(one, other, pieces), True)
            for _ in range(6):
                pieces = some_product(source, letters, 4)
                expected = is_shared_plain(one, other, pieces)
                self.assertIs(is_shared(one, other, pieces), expected, (one, other, pieces))
                if expected:
                    self.assertTrue(any(is_within_plain(pieces, each) for each in found.products()))
            self.assertEqual(shared(one, other), found.products()[0] if len(found) else None)
            self.assertEqual(levels(one, other) is None, len(found) > 0)
            self.assertEqual(kept(other, one), found)

    def test_texts_that_both_take(self):
        source = random.Random(2)
        for _ in range(150):
            letters = source.choice(["a", "ab", "abc"])
            one, other = some_machine(source, letters, 4), some_machine(source, letters, 4)
            found = kept(one, other)
            for text in texts_over(letters, 4):
                if one.takes(text) and other.takes(text):
                    self.assertIn(text, found)
                    self.assertIs(is_shared(one, other, tuple(text)), True)

    def test_edges(self):
        for one, other, products in [
                (NOTHING, NOTHING, []), (NOTHING, ALL, []), (ALL, NOTHING, []), (ALL, ALL, [("ab*",)]),
                (EMPTY_TEXT, EMPTY_TEXT, [()]), (EMPTY_TEXT, ALL, [()]), (ALL, EMPTY_TEXT, [()]), (EMPTY_TEXT, SINGLE, []),
                (EMPTY_TEXT, PAIRS, [()]), (EMPTY_TEXT, ~EMPTY_TEXT, []), (SINGLE, ~SINGLE, []), (PAIRS, ~PAIRS, []),
                (SINGLE, SINGLE, [("b*", "a", "b*")]), (LAST, LAST, [("ab*",)]), (TURNED, ~TURNED, [("ab*",)]),
                (LAST, EMPTY_TEXT, []), (chain("ab", 2), chain("ab", 2), [
                    ("a", "a"), ("a", "b"), ("b", "a"), ("b", "b")]), (chain("ab", 1), chain("ab", 2), [])]:
            self.assertEqual(kept(one, other), Sum("ab", products))
            self.assertEqual(kept(other=other, one=one), Sum("ab", products))
            self.assertEqual(shared(one, other), products[0] if products else None)
            self.assertEqual(shared(other=other, one=one), products[0] if products else None)
        self.assertEqual(shared(EMPTY_TEXT, ALL), ())

    def test_a_machine_and_itself(self):
        source = random.Random(3)
        for _ in range(60):
            machine = some_machine(source, "abc", 4)
            self.assertIs(shared(machine, machine) is None, machine.first_taken() is None)
            self.assertEqual(kept(machine, machine.least()), kept(machine, machine))

    def test_no_star_of_letters_that_do_not_come_again_together(self):
        # The one takes texts that end with a, the other one those that end with b and have no c: both share "ab*".
        one = Machine("abc", [[1, 0, 0], [1, 0, 0]], [False, True])
        other = Machine("abc", [[0, 1, 2], [0, 1, 2], [2, 2, 2]], [False, True, False])
        self.assertEqual(kept(one, other), Sum("abc", [("ab*",)]))
        # An a may come again, and behind it a b may, but not by turns.
        falling = Machine("ab", [[0, 1], [2, 1], [2, 2]], [True, True, False])
        self.assertEqual(kept(falling, ALL), Sum("ab", [("a*", "b*")]))
        self.assertEqual(kept(falling, counter("ab", 2, [1])), Sum("ab", [("a*", "b*")]))

    def test_stars_of_some_of_the_letters(self):
        # How many b there are, counted round by two and by three; with another letter nothing is taken any more.
        for letters in ["ab", "bc", "abc"]:
            for many in [2, 3]:
                rows = [[(at + 1) % many if letter == "b" else many for letter in letters] for at in range(many)]
                rows.append([many] * len(letters))
                one = Machine(letters, rows, [at == 0 for at in range(many + 1)])
                other = Machine(letters, rows, [at == many - 1 for at in range(many + 1)])
                self.assertEqual(kept(one, other), Sum(letters, [("b*",)]))
        # Two letters that come by turns, or one behind the other, or each for itself.
        turns = [[1, 2, 2], [2, 0, 2], [2, 2, 2]]
        self.assertEqual(kept(Machine("abc", turns, [True, False, False]), Machine("abc", turns, [False, True, False])),
                         Sum("abc", [("ab*",)]))

    def test_more_products(self):
        # Machines of so few places share no more products than are let; so a lower limit shows that it is asked for.
        nine = chain("abc", 2)
        self.assertEqual(len(kept(nine, nine)), 9)
        with mock.patch.object(Sum, "MOST_PRODUCTS", 8):
            for asked in [kept, shared]:
                self.assertRaises(TooMany, asked, nine, nine)
            self.assertIs(is_shared(nine, nine, ("a", "b")), True)
        with mock.patch.object(Sum, "MOST_PRODUCTS", 9):
            self.assertEqual(len(kept(nine, nine)), 9)


class IsShared(Case):
    def test_edges(self):
        for one, other, value, expected in [
                (LAST, ~LAST, ("ab*",), True), (LAST, ~LAST, ("a", "ab*", "b"), True), (LAST, ~LAST, ("a*",), False),
                (LAST, ~LAST, ("b*",), False), (LAST, ~LAST, (), False), (LAST, ~LAST, ("ab*",) * 12, True),
                (EMPTY_TEXT, PAIRS, (), True), (EMPTY_TEXT, PAIRS, ("a",), False), (SINGLE, SINGLE, ("a",), True),
                (SINGLE, SINGLE, ("b*", "a"), True), (SINGLE, SINGLE, ("b", "a", "b*", "b"), True),
                (SINGLE, SINGLE, ("b",), False), (SINGLE, SINGLE, ("a", "a"), False), (SINGLE, PAIRS, ("b*",), False),
                (ALL, ALL, (), True), (ALL, ALL, ("a", "b", "ab*"), True), (NOTHING, ALL, (), False),
                (TURNED, ~TURNED, ("a*",), True), (TURNED, ~TURNED, ("a",), False)]:
            self.assertIs(is_shared(one, other, value), expected, (one, other, value))
            self.assertIs(is_shared(other=other, value=value, one=one), expected)

    def test_any_value(self):
        for value in NO_PRODUCTS + [("c",), ("a", "abc*"), ("ab*", "z"), EMPTY, [("ab*",)], ["ab*"], "ab*", ("ab*", "b*", "")]:
            self.assertIs(is_shared(ALL, ALL, value), False, value)
            self.assertIs(is_shared(LAST, ~LAST, value), False, value)


class Wrong(Case):
    def test_other_letters(self):
        for asked in ASKED:
            for one, other in [(SINGLE, Machine("a", [[0]], [True])), (FIVE, counter("abc", 5, [])), (SINGLE, counter("xy", 40, []))]:
                self.assert_raised(OtherLetters, {"one": "ab", "other": other.letters}, asked, one, other)
                self.assert_raised(OtherLetters, {"one": other.letters, "other": "ab"}, asked, other, one)

    def test_5_places(self):
        for asked in ASKED:
            for one, other in [(FIVE, SINGLE), (SINGLE, FIVE), (FIVE, FIVE), (NOTHING, counter("ab", 40, [1]))]:
                self.assert_too_many("places", 4, asked, one, other)
            # The places that are there count, not those of the least machine.
            self.assert_too_many("places", 4, asked, counter("ab", 5, []), NOTHING)
            asked(counter("ab", 4, [0]), counter("ab", 4, [1]))

    def test_nothing_is_changed(self):
        one, other, value = eval(repr(LAST)), eval(repr(PAIRS)), [["a"]]
        self.assertEqual(kept(one, other), kept(one, other))
        self.assertIs(is_shared(one, other, value), False)
        self.assertEqual((one, other, value), (LAST, PAIRS, [["a"]]))
        self.assertEqual(FEW, eval(repr(FEW)))
        self.assertFalse(any(is_shared(one, other, each) for each in OTHERS))
