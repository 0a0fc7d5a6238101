"""Mending a machine beside another one: examples, edges, plain readings, wrong inputs."""

import random
from itertools import combinations

from missedparts.edits import turned
from missedparts.errors import InvalidPlaces, OtherLetters
from missedparts.machines import Machine
from missedparts.mended import how_many_turned, is_mended, mendings
from missedparts.shared import shared
from tests.plain import ALL, EMPTY_TEXT, LAST, NOTHING, OTHERS, PAIRS, SINGLE, Case, chain, counter, some_machine

EXAMPLES = """
>>> from missedparts.machines import Machine
>>> single = Machine("ab", [[1, 0], [2, 1], [2, 2]], [False, True, False])
>>> pairs = Machine("ab", [[1, 0], [2, 1], [3, 2], [3, 3]], [True, False, True, False])
>>> last = Machine("ab", [[0, 1], [0, 1]], [False, True])
>>> from missedparts.mended import how_many_turned, mendings
>>> [how_many_turned(last, ~last), mendings(last, ~last), mendings(single, pairs)]
[1, [(1,)], [()]]
"""
SIX = counter("ab", 6, [0])
ASKED = [how_many_turned, mendings, lambda one, other: is_mended(one, other, [0])]


class Examples(Case):
    def test_as_they_stand_in_the_document(self):
        self.assert_examples(EXAMPLES, 6)


class Mendings(Case):
    def test_by_a_plain_reading(self):
        source = random.Random(1)
        seen = {}
        for _ in range(250):
            letters = source.choice(["a", "ab", "abc"])
            one, other = some_machine(source, letters, 4), some_machine(source, letters, 4)
            mended = [places for many in range(len(one) + 1) for places in combinations(range(len(one)), many)
                      if shared(turned(one, places), other) is None]
            fewest = min([len(places) for places in mended])
            seen[fewest] = seen.get(fewest, 0) + 1
            self.assertEqual(how_many_turned(one, other), fewest)
            self.assertEqual(mendings(one, other), sorted(places for places in mended if len(places) == fewest))
            for many in range(len(one) + 1):
                for places in combinations(range(len(one)), many):
                    self.assertIs(is_mended(one, other, list(places[::-1])), places in mended)
        self.assertGreater(len(seen), 2)

    def test_edges(self):
        five = counter("ab", 5, [0, 1, 3])
        for one, other, expected in [
                (LAST, ~LAST, [(1,)]), (~LAST, LAST, [(0,)]), (SINGLE, PAIRS, [()]), (NOTHING, NOTHING, [()]), (ALL, NOTHING, [()]),
                (NOTHING, ALL, [()]), (ALL, ALL, [(0,)]), (ALL, LAST, [(0,)]), (SINGLE, ~SINGLE, [()]), (LAST, LAST, [(1,)]),
                (EMPTY_TEXT, ALL, [(0,)]), (EMPTY_TEXT, SINGLE, [()]), (five, five, [(0, 1, 3)]), (five, ALL, [(0, 1, 3)]),
                (chain("ab", 2), ALL, [(2,)])]:
            self.assertEqual(mendings(one, other), expected, (one, other))
            self.assertEqual(mendings(other=other, one=one), expected)
            self.assertEqual(how_many_turned(one, other), len(expected[0]))
            self.assertEqual(how_many_turned(other=other, one=one), len(expected[0]))
            self.assertIs(is_mended(one, other, expected[0]), True)
            self.assertIs(is_mended(places=list(expected[0]), other=other, one=one), True)
            for place in expected[0]:
                self.assertIs(is_mended(one, other, [each for each in expected[0] if each != place]), False)
        # Places that need not be turned may be so, too, where nothing is shared by it.
        self.assertIs(is_mended(SINGLE, PAIRS, [1]), True)
        self.assertIs(is_mended(SINGLE, PAIRS, [2]), False)
        self.assertIs(is_mended(LAST, ~LAST, [0, 1]), False)

    def test_nothing_is_changed(self):
        one, other, places = eval(repr(LAST)), eval(repr(~LAST)), [1]
        mendings(one, other).append(())
        self.assertEqual(mendings(one, other), [(1,)])
        self.assertIs(is_mended(one, other, places), True)
        self.assertEqual((one, other, places), (LAST, ~LAST, [1]))


class Wrong(Case):
    def test_places(self):
        for value in OTHERS + [0, "", "01", {0: 1}, {}]:
            if not isinstance(value, (list, tuple)):
                self.assert_raised(InvalidPlaces, {"position": None}, is_mended, SINGLE, PAIRS, value)
                # Ahead of other letters and of too many places.
                self.assert_raised(InvalidPlaces, {"position": None}, is_mended, SIX, counter("abc", 6, []), value)
        for places, position in [([3], 0), ([0, 3], 1), ([-1], 0), ([0, 0], 1), ((2, 1, 2), 2), ([True], 0), ([0, None], 1),
                                 ([0, False], 1), (["0"], 0), ([[0]], 0), ([1, (0,)], 1), ([10 ** 29], 0)]:
            self.assert_raised(InvalidPlaces, {"position": position}, is_mended, SINGLE, PAIRS, places)
            self.assert_raised(InvalidPlaces, {"position": position}, is_mended, SINGLE, counter("abc", 6, []), places)
        self.assert_raised(InvalidPlaces, {"position": 0}, is_mended, SIX, counter("abc", 6, []), [6])

    def test_other_letters(self):
        for asked in ASKED:
            for one in [SINGLE, SIX]:
                for other in [Machine("a", [[0]], [True]), counter("abc", 6, [])]:
                    self.assert_raised(OtherLetters, {"one": "ab", "other": other.letters}, asked, one, other)
                    self.assert_raised(OtherLetters, {"one": other.letters, "other": "ab"}, asked, other, one)

    def test_6_places(self):
        for asked in ASKED:
            for one, other in [(SIX, SINGLE), (SINGLE, SIX), (SIX, SIX), (counter("ab", 40, []), NOTHING)]:
                self.assert_too_many("places", 5, asked, one, other)
            asked(counter("ab", 5, [0]), counter("ab", 5, [1]))
