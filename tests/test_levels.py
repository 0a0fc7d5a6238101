"""Levels, ladders and towers: examples, edges, plain readings, wrong inputs."""

import random
from unittest import mock

from missedparts import levels as module
from missedparts.closures import down, under
from missedparts.errors import OtherLetters, TooMany
from missedparts.levels import are_levels, depth, is_ladder, is_tower, ladder, levels, tower
from missedparts.machines import Machine
from missedparts.shared import is_shared, shared
from missedparts.sums import Sum
from tests.plain import (
    ALL, EMPTY_TEXT, FEW, LAST, NOTHING, OTHERS, PAIRS, SINGLE, Case, chain, counter, is_part_plain, is_within_plain,
    some_machine, some_product, texts_over, wholes_plain,
)
from tests.test_products import NO_PRODUCTS

EXAMPLES = """
>>> from missedparts.machines import Machine
>>> from missedparts.sums import Sum
>>> single = Machine("ab", [[1, 0], [2, 1], [2, 2]], [False, True, False])
>>> pairs = Machine("ab", [[1, 0], [2, 1], [3, 2], [3, 3]], [True, False, True, False])
>>> from missedparts.levels import are_levels, depth, ladder, levels, tower
>>> from missedparts.shared import is_shared, kept, shared
>>> levels(single, pairs)
[Sum('ab', [('b*', 'a', 'b*')]), Sum('ab', [('b*',)])]
>>> [depth(single, pairs), depth(pairs, single), tower(single, pairs), tower(pairs, single), shared(single, pairs)]
[2, 3, ['', 'a'], ['', 'a', 'aa'], None]
>>> last = Machine("ab", [[0, 1], [0, 1]], [False, True])
>>> [shared(last, ~last), kept(last, single), levels(last, ~last), are_levels(single, pairs, levels(single, pairs))]
[('ab*',), Sum('ab', [('b*', 'a', 'b*')]), None, True]
"""
WHOLE = Sum.whole("ab")
EMPTY = Sum("ab", [])
TEXTLESS = Sum("ab", [()])
FIVE = counter("ab", 5, [0])
# Values of all kinds without those that are lists of texts or of nothing.
NO_LISTS = [value for value in OTHERS if not isinstance(value, (list, tuple))]
ASKED = [levels, depth, ladder, tower]
WHETHER = [are_levels, is_ladder, is_tower]
# As many levels as machines of so few places were found to have, and others of which some levels have many products.
HIGH = [
    (Machine("abc", [[1, 2, 3], [2, 0, 1], [3, 0, 2], [3, 3, 3]], [True, True, True, False]),
     Machine("abc", [[1, 1, 2], [1, 1, 1], [0, 3, 3], [3, 1, 3]], [False, False, True, True]), 11),
    (Machine("abc", [[1, 2, 2], [1, 1, 1], [2, 3, 0], [3, 1, 0]], [True, False, True, True]),
     Machine("abc", [[1, 2, 2], [3, 0, 3], [2, 2, 2], [3, 3, 2]], [False, True, False, True]), 11),
    (Machine("ab", [[1, 1], [2, 3], [2, 2], [0, 2]], [True, False, False, True]),
     Machine("ab", [[1, 2], [1, 1], [3, 0], [1, 3]], [False, False, True, True]), 7),
    (Machine("abc", [[1, 1, 1], [0, 2, 3], [3, 0, 3], [2, 1, 2]], [False, True, False, False]),
     Machine("abc", [[1, 1, 1], [2, 2, 2], [3, 3, 3], [3, 3, 3]], [True, False, True, False]), 4),
]


def part_levels(one, other, sums, texts):
    """Whether they part these texts: straight from the definition."""
    for text in texts:
        many = sum([text in level for level in sums])
        if one.takes(text) and many % 2 == 0 or other.takes(text) and many % 2 == 1:
            return False
    return all(below.is_within(above) for above, below in zip(sums, sums[1:]))


def is_tower_plain(one, other, texts):
    for at, text in enumerate(texts[::-1]):
        if not (one, other)[at % 2].takes(text):
            return False
    return all(is_part_plain(part, whole) for part, whole in zip(texts, texts[1:]))


def tower_plain(one, other, sums):
    """The tower, text by text, as the document tells it."""
    texts = [""]
    for many in range(len(sums), 0, -1):
        products = sums[many - 2].products() if many > 1 else [(one.letters + "*",)]
        texts.append(wholes_plain(one if many % 2 else other, products, texts[-1]))
    return texts[1:]


def is_ladder_plain(one, other, products):
    """By one text of each product, which is long enough for machines of so few places."""
    above = (one.letters + "*",)
    for at, pieces in enumerate(products):
        text = "".join([piece[:-1] * 9 if piece[-1] == "*" else piece for piece in pieces])
        if wholes_plain((one, other)[at % 2], [above], text) is None:
            return False
        above = pieces
    return True


def highest_plain(one, other, texts):
    """The height of the highest tower of these texts."""
    best = 0
    heights = {}
    for text in texts:
        below = [heights[part] for part in heights if is_part_plain(part, text)]
        mine = 1 + max([row[1] for row in below], default=0) if one.takes(text) else 0
        theirs = 1 + max([row[0] for row in below], default=0) if other.takes(text) else 0
        if mine or theirs:
            heights[text] = (mine, theirs)
        best = max(best, mine)
    return best


class Examples(Case):
    def test_as_they_stand_in_the_document(self):
        self.assert_examples(EXAMPLES, 10)


class Levels(Case):
    def test_by_a_plain_reading(self):
        source = random.Random(1)
        seen = {}
        while sum(seen.values()) < 250:
            letters = source.choice(["a", "ab", "abc"])
            one, other = some_machine(source, letters, 4), some_machine(source, letters, 4)
            found = levels(one, other)
            if found is None or len(found) < 2 and source.random() < 0.9:
                continue
            seen[len(found)] = seen.get(len(found), 0) + 1
            texts = texts_over(letters, {1: 12, 2: 6, 3: 4}[len(letters)])
            self.assertTrue(part_levels(one, other, found, texts))
            self.assertIs(are_levels(one, other, found), True)
            self.assertEqual(depth(one, other), len(found))
            self.assertIn(depth(other, one), [len(found) - 1, len(found), len(found) + 1])
            self.assertGreaterEqual(len(found), highest_plain(one, other, texts))
            self.assertEqual(tower(one, other), tower_plain(one, other, found))
            self.assertTrue(is_tower_plain(one, other, tower(one, other)))
            steps = ladder(one, other)
            self.assertEqual(len(steps), len(found))
            self.assertTrue(is_ladder_plain(one, other, steps))
            self.assertIs(is_ladder(one, other, steps), True)
        self.assertGreater(len(seen), 3)

    def test_each_level_is_under_the_one_before(self):
        for one, other, many in HIGH:
            found = levels(one, other)
            self.assertEqual(len(found), many)
            self.assertEqual(found[0], down(one))
            for at in range(1, many):
                self.assertEqual(found[at], under(one if at % 2 == 0 else other, found[at - 1]))
                self.assertTrue(found[at].is_within(found[at - 1]))
            self.assertEqual(len(under(one if many % 2 == 0 else other, found[-1])), 0)

    def test_high_ones(self):
        for one, other, many in HIGH:
            found = levels(one, other)
            texts = texts_over(one.letters, 6)
            self.assertTrue(part_levels(one, other, found, texts))
            self.assertIs(are_levels(one, other, found), True)
            self.assertIs(are_levels(one, other, found[:-1]), False)
            self.assertIs(are_levels(one, other, found[1:]), False)
            self.assertEqual(tower(one, other), tower_plain(one, other, found))
            self.assertIs(is_tower(one, other, tower(one, other)), True)
            self.assertIs(is_ladder(one, other, ladder(one, other)), True)
            self.assertTrue(is_ladder_plain(one, other, ladder(one, other)))
            self.assertEqual((len(ladder(one, other)), len(tower(one, other)), depth(one, other)), (many,) * 3)

    def test_edges(self):
        for one, other, expected in [
                (NOTHING, NOTHING, []), (NOTHING, ALL, []), (NOTHING, LAST, []), (ALL, NOTHING, [WHOLE]),
                (EMPTY_TEXT, NOTHING, [TEXTLESS]), (EMPTY_TEXT, ~EMPTY_TEXT, [TEXTLESS]),
                (~EMPTY_TEXT, EMPTY_TEXT, [WHOLE, TEXTLESS]), (SINGLE, EMPTY_TEXT, [FEW, TEXTLESS]),
                (SINGLE, ~SINGLE, [FEW, Sum("ab", [("b*",)])]), (~SINGLE, SINGLE, [WHOLE, FEW, Sum("ab", [("b*",)])])]:
            self.assertEqual(levels(one, other), expected)
            self.assertEqual(levels(other=other, one=one), expected)
            self.assertEqual(depth(other=other, one=one), len(expected))
            self.assertEqual(len(tower(other=other, one=one)), len(expected))
            self.assertEqual(len(ladder(other=other, one=one)), len(expected))
        for asked in ASKED:
            for one, other in [(ALL, ALL), (LAST, ~LAST), (EMPTY_TEXT, EMPTY_TEXT), (SINGLE, SINGLE), (LAST, ALL)]:
                self.assertIsNone(asked(one, other))

    def test_a_machine_and_its_contrary(self):
        source = random.Random(2)
        for _ in range(200):
            machine = some_machine(source, source.choice(["a", "ab", "abc"]), 4)
            many, other = depth(machine, ~machine), depth(~machine, machine)
            if many is None:
                self.assertIsNone(other)
            else:
                self.assertEqual(abs(many - other), 1)

    def test_equal_levels_that_follow_one_another_are_shared(self):
        source = random.Random(3)
        met = 0
        while met < 40:
            one, other = some_machine(source, "ab", 4), some_machine(source, "ab", 4)
            if shared(one, other) is None:
                continue
            row = [down(one)]
            while len(row) < 2 or row[-1] != row[-2]:
                row.append(under((one, other)[len(row) % 2], row[-1]))
            self.assertEqual(under((one, other)[len(row) % 2], row[-1]), row[-1])
            for pieces in row[-1].products():
                self.assertIs(is_shared(one, other, pieces), True)
            self.assertIs(are_levels(one, other, row), False)
            self.assertIsNone(levels(one, other))
            met += 1

    def test_24_levels(self):
        # Machines of so few places have no more levels than are let; so lower limits show that they are asked for.
        one, other, many = HIGH[0]
        with mock.patch.object(module, "MOST_LEVELS", many):
            self.assertEqual(depth(one, other), many)
        with mock.patch.object(module, "MOST_LEVELS", many - 1):
            for asked in ASKED:
                self.assert_too_many("levels", many - 1, asked, one, other)
                self.assertIsNone(asked(LAST, ~LAST))
        self.assertEqual(module.MOST_LEVELS, 24)

    def test_60_products(self):
        one, other, many = HIGH[3]
        found = levels(one, other)
        most = max([len(level) for level in found])
        self.assertEqual(most, 9)
        with mock.patch.object(Sum, "MOST_PRODUCTS", most):
            self.assertEqual(depth(one, other), many)
        with mock.patch.object(Sum, "MOST_PRODUCTS", most - 1):
            for asked in ASKED:
                self.assertRaises(TooMany, asked, one, other)
                self.assertIsNone(asked(LAST, ~LAST))
        # The level that is one too many is not looked at for its products, one ahead of it is.
        wide = [at for at, level in enumerate(found) if len(level) == most][0]
        with mock.patch.object(Sum, "MOST_PRODUCTS", most - 1), mock.patch.object(module, "MOST_LEVELS", wide):
            for asked in ASKED:
                self.assert_too_many("levels", wide, asked, one, other)
        with mock.patch.object(Sum, "MOST_PRODUCTS", most - 1), mock.patch.object(module, "MOST_LEVELS", wide + 1):
            for asked in ASKED:
                self.assert_too_many("products", most - 1, asked, one, other)

    def test_400_letters(self):
        one, other, many = HIGH[0]
        long = max([len(text) for text in tower(one, other)])
        with mock.patch.object(module, "MOST_IN_TOWER", long):
            self.assertEqual(len(tower(one, other)), many)
        with mock.patch.object(module, "MOST_IN_TOWER", long - 1):
            self.assert_too_many("letters", long - 1, tower, one, other)
            self.assertEqual((depth(one, other), len(ladder(one, other))), (many, many))
        self.assertEqual(module.MOST_IN_TOWER, 400)


class AreLevels(Case):
    def test_edges(self):
        b_star, one_a = Sum("ab", [("b*",)]), Sum("ab", [("b*", "a", "b*")])
        for one, other, value, expected in [
                (SINGLE, PAIRS, [one_a, b_star], True), (SINGLE, PAIRS, (one_a, b_star), True),
                (SINGLE, PAIRS, [one_a, b_star, EMPTY], True), (SINGLE, PAIRS, [one_a, b_star, EMPTY, EMPTY], True),
                (SINGLE, PAIRS, [one_a], False), (SINGLE, PAIRS, [b_star, one_a], False), (SINGLE, PAIRS, [], False),
                (SINGLE, PAIRS, [one_a, b_star, b_star], False), (SINGLE, PAIRS, [one_a, b_star, b_star, b_star], True),
                (SINGLE, PAIRS, [one_a, one_a, one_a, b_star], True), (SINGLE, PAIRS, [one_a, one_a, b_star], False),
                (SINGLE, PAIRS, [EMPTY, one_a, b_star], False), (SINGLE, PAIRS, [WHOLE, one_a, one_a, b_star], False),
                (PAIRS, SINGLE, [WHOLE, one_a, b_star], True), (NOTHING, ALL, [], True), (NOTHING, ALL, [EMPTY], True),
                (NOTHING, NOTHING, [WHOLE], True), (NOTHING, ALL, [WHOLE], False), (ALL, NOTHING, [WHOLE], True),
                (ALL, NOTHING, [WHOLE] * 3, True), (ALL, NOTHING, [WHOLE] * 2, False), (ALL, NOTHING, [], False),
                (ALL, ALL, [WHOLE], False), (EMPTY_TEXT, ~EMPTY_TEXT, [TEXTLESS], True), (LAST, ~LAST, [WHOLE] * 12, False),
                (SINGLE, NOTHING, [WHOLE], True), (NOTHING, NOTHING, [EMPTY, WHOLE], False)]:
            self.assertIs(are_levels(one, other, value), expected, (one, other, value))
            self.assertIs(are_levels(other=other, value=value, one=one), expected)

    def test_by_a_plain_reading(self):
        source = random.Random(4)
        told = {True: 0, False: 0}
        while min(told.values()) < 60:
            letters = source.choice(["a", "ab"])
            one, other = some_machine(source, letters, 4), some_machine(source, letters, 4)
            found = levels(one, other)
            if found is None or len(found) < 2:
                continue
            value = [level | Sum(letters, [some_product(source, letters, 2)]) if source.random() < 0.3 else level
                     for level in found]
            if source.random() < 0.3:
                value.insert(source.randint(0, len(value)), source.choice(value))
            expected = part_levels(one, other, value, texts_over(letters, {1: 14, 2: 8}[len(letters)]))
            self.assertIs(are_levels(one, other, value), expected, (one, other, value))
            told[expected] += 1

    def test_any_value(self):
        for value in NO_LISTS + [0, "", FEW, [None], [FEW, None], [[FEW]], (FEW, ()), {0: FEW}, [SINGLE], [("ab*",)],
                               [Sum("abc", [])], [Sum.whole("a")], [Sum.whole("abc"), FEW], ["sum"]]:
            self.assertIs(are_levels(NOTHING, NOTHING, value), False, value)
            self.assertIs(are_levels(SINGLE, PAIRS, value), False, value)


class Ladders(Case):
    def test_edges(self):
        for one, other, value, expected in [
                (SINGLE, PAIRS, [], True), (SINGLE, PAIRS, (), True), (SINGLE, PAIRS, [("b*", "a", "b*"), ("b*",)], True),
                (SINGLE, PAIRS, ((), ()), True), (SINGLE, PAIRS, [("b*",)], True), (SINGLE, PAIRS, [("a",), ("b*",)], False),
                (SINGLE, PAIRS, [("a", "a*"), ()], False), (SINGLE, PAIRS, [("a",), (), ()], False),
                (SINGLE, PAIRS, [("b", "a", "b", "b*"), ("b",)], True), (SINGLE, PAIRS, [("b*",), ("b*",)], True),
                (LAST, ~LAST, [("ab*",)] * 12, True), (LAST, ~LAST, [("a*", "b"), ("a*",), ()], False),
                (LAST, ~LAST, [("a*", "b"), ("a*",)], True), (LAST, ~LAST, [("a",), ("b",)], False),
                (LAST, ~LAST, [("a*", "b", "a"), ()], True), (NOTHING, ALL, [], True), (NOTHING, ALL, [()], False),
                (ALL, ALL, [("ab*", "a", "b*")], True), (EMPTY_TEXT, ALL, [(), (), ()], True)]:
            self.assertIs(is_ladder(one, other, value), expected, (one, other, value))
            self.assertIs(is_ladder(other=other, value=value, one=one), expected)

    def test_by_a_plain_reading(self):
        source = random.Random(5)
        told = {True: 0, False: 0}
        while min(told.values()) < 60:
            letters = source.choice(["a", "ab"])
            one, other = some_machine(source, letters, 4), some_machine(source, letters, 4)
            value = [some_product(source, letters, 3) for _ in range(source.randint(1, 3))]
            expected = is_ladder_plain(one, other, value)
            self.assertIs(is_ladder(one, other, value), expected, (one, other, value))
            told[expected] += 1

    def test_each_product_is_within_the_one_before(self):
        steps = ladder(PAIRS, SINGLE)
        for at, pieces in enumerate(steps[1:]):
            self.assertTrue(is_within_plain(pieces, steps[at]))

    def test_any_value(self):
        for value in NO_LISTS + [0, "", "ab", ("a", "b"), ["a"], [None], [["a"]], [("c",)], [("ab*",), ("abc*",)], {0: ()},
                               [FEW], FEW, [("",)]] + [[each] for each in NO_PRODUCTS]:
            self.assertIs(is_ladder(ALL, ALL, value), False, value)


class Towers(Case):
    def test_edges(self):
        for one, other, value, expected in [
                (SINGLE, PAIRS, [], True), (SINGLE, PAIRS, (), True), (SINGLE, PAIRS, ["", "a"], True),
                (SINGLE, PAIRS, ("", "a"), True), (SINGLE, PAIRS, ["a"], True), (SINGLE, PAIRS, [""], False),
                (SINGLE, PAIRS, ["a", "aa"], False), (PAIRS, SINGLE, ["a", "aa"], True), (SINGLE, PAIRS, ["b", "aba"], False),
                (SINGLE, PAIRS, ["bb", "bab"], True), (SINGLE, PAIRS, ["bb", "ba"], False), (PAIRS, SINGLE, ["", "a", "aa"], True),
                (PAIRS, SINGLE, ["b", "a", "aa"], False), (ALL, ALL, ["ab"] * 12, True), (NOTHING, ALL, [], True),
                (NOTHING, ALL, [""], False), (LAST, ~LAST, ["ab" * at + "a" * (at % 2) for at in range(1)], False),
                (LAST, ~LAST, ["a", "ab", "aba", "abab"], True), (LAST, ~LAST, ["a" * 4500, "a" * 4500 + "b"], True)]:
            self.assertIs(is_tower(one, other, value), expected, (one, other, value))
            self.assertIs(is_tower(other=other, value=value, one=one), expected)

    def test_by_a_plain_reading(self):
        source = random.Random(6)
        told = {True: 0, False: 0}
        while min(told.values()) < 60:
            letters = source.choice(["a", "ab"])
            one, other = some_machine(source, letters, 4), some_machine(source, letters, 4)
            value = [source.choice(texts_over(letters, 2))]
            for _ in range(source.randint(0, 3)):
                at = source.randint(0, len(value[-1]))
                value.append(value[-1][:at] + source.choice(["", "a", letters[-1]]) + value[-1][at + source.randint(0, 9) // 9:])
            expected = is_tower_plain(one, other, value)
            self.assertIs(is_tower(one, other, value), expected, (one, other, value))
            told[expected] += 1

    def test_any_value(self):
        for value in NO_LISTS + [0, "", "ab", {0: ""}, [None], [["a"]], ["c"], ["a", "abc"], [FEW], [("a",)], [0], [b"a"],
                               ["a", None], ["A"]]:
            self.assertIs(is_tower(ALL, ALL, value), False, value)


class Wrong(Case):
    def test_other_letters(self):
        for asked in ASKED + [lambda one, other: each(one, other, None) for each in WHETHER]:
            for other in [Machine("a", [[0]], [True]), counter("abc", 5, []), counter("xy", 40, [])]:
                for one in [SINGLE, FIVE]:
                    self.assert_raised(OtherLetters, {"one": "ab", "other": other.letters}, asked, one, other)
                    self.assert_raised(OtherLetters, {"one": other.letters, "other": "ab"}, asked, other, one)

    def test_other_letters_where_any_value_is_asked(self):
        for asked in WHETHER:
            for value in [None, [], "ab", [FEW]]:
                self.assert_raised(OtherLetters, {"one": "ab", "other": "abc"}, asked, SINGLE, chain("abc", 1), value)
                self.assert_too_many("places", 4, asked, SINGLE, FIVE, value)
                self.assert_too_many("places", 4, asked, FIVE, SINGLE, value)

    def test_5_places(self):
        for asked in ASKED:
            for one, other in [(FIVE, SINGLE), (SINGLE, FIVE), (FIVE, FIVE), (counter("ab", 5, []), NOTHING)]:
                self.assert_too_many("places", 4, asked, one, other)
            self.assertIsNone(asked(counter("ab", 4, [0]), counter("ab", 4, [1])))

    def test_nothing_is_changed(self):
        one, other = eval(repr(SINGLE)), eval(repr(PAIRS))
        value = [["a"], [("a",)], levels(one, other)]
        for asked in ASKED:
            self.assertEqual(asked(one, other), asked(one, other))
        for asked in WHETHER:
            for each in value:
                asked(one, other, each)
        self.assertEqual((one, other), (SINGLE, PAIRS))
        self.assertEqual(value, [["a"], [("a",)], levels(one, other)])
        levels(one, other).clear()
        self.assertEqual(len(levels(one, other)), 2)
