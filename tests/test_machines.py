"""Machines: examples, edges, plain readings, wrong inputs."""

import random
from itertools import product

from missedparts.errors import (
    InvalidKinds, InvalidLetter, InvalidLetters, InvalidMachine, InvalidPlace, InvalidRows, InvalidText, NotComeTo,
    OtherLetters, TooMany,
)
from missedparts.machines import Machine, is_same, parting
from missedparts.sums import Sum
from tests.plain import (
    ALL, EMPTY_TEXT, FEW, LAST, NOTHING, OTHERS, PAIRS, SINGLE, Case, counter, some_machine, texts_over,
)

EXAMPLES = """
>>> from missedparts.machines import Machine, is_same, parting
>>> single = Machine("ab", [[1, 0], [2, 1], [2, 2]], [False, True, False])
>>> pairs = Machine("ab", [[1, 0], [2, 1], [3, 2], [3, 3]], [True, False, True, False])
>>> [single.takes("bab"), "aa" in pairs, parting(single, pairs), (single | pairs).first_text(3), len((~pairs).least())]
[True, True, '', 'aaa', 4]
>>> (single & pairs).least()
Machine('ab', [[0, 0]], [False])
"""
JOINS = [
    (lambda one, other: one & other, lambda one, other: one and other),
    (lambda one, other: one | other, lambda one, other: one or other),
    (lambda one, other: one - other, lambda one, other: one and not other),
]


def ring(letters, many, kind=False):
    """A machine with so many places one behind another, and back to the first one."""
    return [[(at + 1) % many] * len(letters) for at in range(many)], [kind] * many


def is_numbered(machine):
    met = [0]
    for place in range(len(machine)):
        met.extend([goal for at, goal in enumerate(machine.rows()[place])
                    if goal not in met and goal not in machine.rows()[place][:at]])
    return met == list(range(len(machine)))


class Examples(Case):
    def test_as_they_stand_in_the_document(self):
        self.assert_examples(EXAMPLES, 5)


class Made(Case):
    def test_parts(self):
        self.assertEqual(SINGLE.letters, "ab")
        self.assertEqual(SINGLE.rows(), [[1, 0], [2, 1], [2, 2]])
        self.assertEqual(SINGLE.kinds(), [False, True, False])
        self.assertEqual(len(SINGLE), 3)
        self.assertEqual(repr(SINGLE), "Machine('ab', [[1, 0], [2, 1], [2, 2]], [False, True, False])")
        self.assertEqual(eval(repr(PAIRS)), PAIRS)

    def test_tuples_for_lists_and_names(self):
        for rows in [((1, 0), [2, 1], (2, 2)), [(1, 0), (2, 1), [2, 2]]]:
            machine = Machine(kinds=(False, True, False), rows=rows, letters="ab")
            self.assertEqual(machine, SINGLE)
            self.assertEqual(repr(machine), repr(SINGLE))
            self.assertEqual(Machine.come_to(kinds=(False, True, False), letters="ab", rows=rows), SINGLE)
        self.assertIs(type(machine.rows()), list)
        self.assertEqual({type(row) for row in machine.rows()}, {list})
        self.assertIs(type(machine.kinds()), list)

    def test_what_is_given_is_copied(self):
        rows, kinds = [[1, 0], [2, 1], [2, 2]], [False, True, False]
        machine = Machine("ab", rows, kinds)
        rows[0][0] = 0
        rows.append([0, 0])
        kinds[0] = True
        self.assertEqual(machine, SINGLE)
        machine.rows()[0][0] = 0
        machine.rows().append([])
        machine.kinds()[0] = True
        self.assertEqual(machine, SINGLE)
        self.assertTrue(machine.takes("a"))

    def test_equal(self):
        same = Machine("ab", [[1, 0], [2, 1], [2, 2]], [False, True, False])
        self.assertTrue(same == SINGLE and not same != SINGLE)
        for other in [
                Machine("ac", [[1, 0], [2, 1], [2, 2]], [False, True, False]),
                Machine("ab", [[1, 0], [2, 1], [2, 1]], [False, True, False]),
                Machine("ab", [[1, 0], [2, 1], [2, 2]], [False, True, True]),
                Machine("ab", [[1, 0], [2, 1], [3, 2], [3, 3]], [False, True, False, False])] + OTHERS[:-2] + [FEW]:
            self.assertFalse(SINGLE == other)
            self.assertTrue(SINGLE != other)

    def test_40_places(self):
        self.assertEqual(Machine.MOST_PLACES, 40)
        self.assertEqual(SINGLE.MOST_PLACES, 40)
        rows, kinds = ring("ab", 40)
        self.assertEqual(len(Machine("ab", rows, kinds)), 40)
        self.assertEqual(len(Machine.come_to("ab", rows, kinds)), 40)

    def test_41_places(self):
        rows, kinds = ring("ab", 41)
        self.assert_too_many("places", 40, Machine, "ab", rows, kinds)
        self.assert_too_many("places", 40, Machine.come_to, "ab", rows, kinds)
        # The rows that are passed count, not those that are come to, and ahead of what is not come to.
        rows[0] = [0, 0]
        self.assert_too_many("places", 40, Machine, "ab", rows, kinds)
        self.assert_too_many("places", 40, Machine.come_to, "ab", rows, kinds)

    def test_one_place(self):
        for letters in ["a", "bz", "abc"]:
            for kind in [True, False]:
                machine = Machine(letters, [[0] * len(letters)], [kind])
                self.assertEqual(len(machine), 1)
                for each in [machine.least(), machine.numbered(), machine.at(0)]:
                    self.assertEqual(each, machine)
                self.assertEqual(machine.first_taken(), "" if kind else None)
                self.assertEqual(machine.first_text(0), "")
                self.assertIs(machine.takes(letters * 3), kind)
                self.assertEqual((~machine).kinds(), [not kind])


class WrongParts(Case):
    def test_letters(self):
        for made in [Machine, Machine.come_to]:
            for value in OTHERS + ["", "aa", "ba", "abcd", ("a", "b"), 1]:
                self.assert_raised(InvalidLetters, {"value": value}, made, value, None, None)

    def test_rows(self):
        for made in [Machine, Machine.come_to]:
            for value in [None, True, 0, "", "ab", {}, {0: [0, 0]}, {1}, b"", [], (), range(1), SINGLE, len]:
                self.assert_raised(InvalidRows, {"position": None}, made, "ab", value, None)

    def test_a_row(self):
        wrong = [None, 0, "ab", [], [0], [0, 0, 0], [0, 2], [2, 0], [0, -1], [-1, 0], [0, True], [False, 0], [0, None],
                 [0, "1"], [[0], 0], {0: 0, 1: 0}, {0, 1}, b"ab", range(2), [0, 10 ** 29]]
        for made in [Machine, Machine.come_to]:
            for row in wrong:
                self.assert_raised(InvalidRows, {"position": 1}, made, "ab", [[1, 0], row], [True, False])
                self.assert_raised(InvalidRows, {"position": 0}, made, "ab", (row, row), None)
            self.assert_raised(InvalidRows, {"position": 0}, made, "a", [[1]], None)
            self.assert_raised(InvalidRows, {"position": 41}, made, "a", [[0]] * 41 + [[42]], [True])

    def test_kinds(self):
        for made in [Machine, Machine.come_to]:
            for value in [None, True, "", "ab", {}, {0: True, 1: True}, [], [True], [True] * 3, (), (True,), SINGLE, 2]:
                self.assert_raised(InvalidKinds, {"position": None}, made, "a", [[1], [0]], value)
            for kind in [None, 0, 1, "", "a", "True", [], [True], (), {}, SINGLE]:
                self.assert_raised(InvalidKinds, {"position": 1}, made, "a", [[1], [0]], [True, kind])
                self.assert_raised(InvalidKinds, {"position": 0}, made, "a", [[1], [0]], (kind, kind))
            # Ahead of the places that are too many, or not come to.
            self.assert_raised(InvalidKinds, {"position": None}, made, "a", [[0]] * 41, [True])
            self.assert_raised(InvalidKinds, {"position": 40}, made, "a", [[0]] * 41, [True] * 40 + [1])

    def test_not_come_to(self):
        for rows, place in [([[0], [1]], 1), ([[0], [0], [1]], 1), ([[2], [0], [2]], 1), ([[1], [0], [1], [2]], 2)]:
            kinds = [True] * len(rows)
            self.assert_raised(NotComeTo, {"place": place}, Machine, "a", rows, kinds)
            self.assertLess(len(Machine.come_to("a", rows, kinds)), len(rows))


class Come(Case):
    def test_come_to(self):
        made = Machine.come_to("ab", [[3, 2], [0, 1], [2, 3], [0, 2]], [True, True, False, True])
        self.assertEqual(made, Machine("ab", [[1, 2], [0, 2], [2, 1]], [True, True, False]))

    def test_numbered(self):
        machine = Machine("ab", [[2, 1], [1, 0], [2, 0]], [True, False, True])
        self.assertEqual(machine.numbered(), Machine("ab", [[1, 2], [1, 0], [2, 0]], [True, True, False]))
        self.assertEqual(machine, Machine("ab", [[2, 1], [1, 0], [2, 0]], [True, False, True]))

    def test_at(self):
        self.assertEqual(SINGLE.at(0), SINGLE)
        self.assertEqual(SINGLE.at(1), Machine("ab", [[1, 0], [1, 1]], [True, False]))
        self.assertEqual(SINGLE.at(place=2), NOTHING)
        self.assertEqual(LAST.at(1), Machine("ab", [[1, 0], [1, 0]], [True, False]))

    def test_by_a_plain_reading(self):
        source = random.Random(1)
        for _ in range(200):
            letters = source.choice(["a", "ab", "abc"])
            many = source.randint(1, 6)
            rows = [[source.randrange(many) for _ in letters] for _ in range(many)]
            kinds = [source.random() < 0.5 for _ in range(many)]
            machine = Machine.come_to(letters, rows, kinds)
            self.assertTrue(is_numbered(machine))
            for text in texts_over(letters, 5):
                place = 0
                for letter in text:
                    place = rows[place][letters.index(letter)]
                self.assertIs(machine.takes(text), kinds[place])
                self.assertIs(text in machine, kinds[place])
            for place in range(len(machine)):
                behind = machine.at(place)
                self.assertTrue(is_numbered(behind))
                for text in texts_over(letters, 4):
                    self.assertIs(behind.takes(text), machine.takes(machine.first_text(place) + text))


class Texts(Case):
    def test_goals(self):
        self.assertEqual([SINGLE.goal(place, letter) for place, letter in product(range(3), "ab")], [1, 0, 2, 1, 2, 2])
        self.assertEqual(SINGLE.goal(letter="b", place=1), 1)
        self.assertEqual([SINGLE.goes(0, text) for text in ["", "b", "bab", "aab"]], [0, 0, 1, 2])
        self.assertEqual(SINGLE.goes(text="ba", place=1), 2)

    def test_in_takes_any_value(self):
        for value in OTHERS + [0, 1, (), ("a",), "c", "ac"]:
            self.assertIs(value in ALL, False)
        for text in ["", "a", "bab", "ab" * 4500]:
            self.assertIs(text in ALL, True)
            self.assertIs(text in NOTHING, False)

    def test_first_texts(self):
        machine = Machine("abc", [[0, 1, 2], [1, 3, 2], [4, 2, 0], [3, 3, 4], [4, 4, 4]], [False, False, False, True, True])
        self.assertEqual([machine.first_text(place) for place in range(5)], ["", "b", "c", "bb", "ca"])
        self.assertEqual(machine.first_taken(), "bb")
        self.assertEqual(NOTHING.first_taken(), None)
        self.assertEqual(PAIRS.first_taken(), "")
        self.assertEqual(LAST.first_taken(), "b")
        rows, kinds = ring("a", 40)
        self.assertEqual(Machine("a", rows, kinds).first_text(39), "a" * 39)

    def test_first_texts_by_a_plain_reading(self):
        source = random.Random(2)
        for _ in range(150):
            letters = source.choice(["a", "ab", "abc"])
            machine = some_machine(source, letters, 5)
            texts = texts_over(letters, 5)
            for place in range(len(machine)):
                self.assertEqual(machine.first_text(place), next(
                    text for text in texts if machine.goes(0, text) == place))
            self.assertEqual(machine.first_taken(), next((text for text in texts if machine.takes(text)), None))

    def test_wrong_places(self):
        for value in OTHERS + [3, 10 ** 29, "0", "a", "", (0,), ()]:
            for asked in [SINGLE.first_text, SINGLE.at]:
                self.assert_raised(InvalidPlace, {"value": value}, asked, value)
            self.assert_raised(InvalidPlace, {"value": value}, SINGLE.goal, value, "c")
            self.assert_raised(InvalidPlace, {"value": value}, SINGLE.goes, value, "c")

    def test_wrong_letters_and_texts(self):
        for value in OTHERS + [0, 1, "ab", "", "c", "aa", ("a",), ()]:
            self.assert_raised(InvalidLetter, {"value": value}, SINGLE.goal, 0, value)
        for value in OTHERS + [0, 1, "c", "abc", ("a",), ()]:
            self.assert_raised(InvalidText, {"value": value}, SINGLE.goes, 0, value)
            self.assert_raised(InvalidText, {"value": value}, SINGLE.takes, value)


class Least(Case):
    def test_least(self):
        doubled = Machine("ab", [[1, 2], [3, 0], [3, 0], [4, 4], [3, 3]], [False, True, True, False, False])
        self.assertEqual(doubled.least(), Machine("ab", [[1, 1], [2, 0], [2, 2]], [False, True, False]))
        self.assertEqual(SINGLE.least(), SINGLE)
        rows, _ = ring("ab", 40)
        self.assertEqual(Machine("ab", rows, [True] * 40).least(), ALL)
        self.assertEqual(len(Machine("ab", rows, [True] + [False] * 39).least()), 40)
        self.assertEqual(len(Machine("ab", rows, [at % 4 == 0 for at in range(40)]).least()), 4)

    def test_numbered_as_come_to(self):
        machine = Machine("ab", [[2, 1], [1, 1], [2, 2]], [False, True, False])
        self.assertEqual(machine.least(), Machine("ab", [[1, 2], [1, 1], [2, 2]], [False, False, True]))
        self.assertEqual(Machine("ab", [[0, 2], [1, 1], [2, 1]], [True, False, False]).least().rows(), [[0, 1], [1, 1]])

    def test_by_a_plain_reading(self):
        source = random.Random(3)
        for _ in range(200):
            letters = source.choice(["a", "ab", "abc"])
            machine = some_machine(source, letters, 6)
            least = machine.least()
            texts = texts_over(letters, 6 if len(letters) < 3 else 5)
            signs = {tuple(machine.at(place).takes(text) for text in texts) for place in range(len(machine))}
            self.assertEqual(len(least), len(signs))
            self.assertTrue(is_numbered(least))
            for text in texts:
                self.assertIs(least.takes(text), machine.takes(text))
            self.assertEqual(least.least(), least)
            self.assertTrue(is_same(machine, least))


class Joined(Case):
    def test_by_a_plain_reading(self):
        source = random.Random(4)
        for _ in range(150):
            letters = source.choice(["a", "ab", "abc"])
            one, other = some_machine(source, letters, 5), some_machine(source, letters, 5)
            texts = texts_over(letters, 5)
            pairs = {(one.goes(0, text), other.goes(0, text)) for text in texts_over(letters, 6)}
            for joined, kind in JOINS:
                both = joined(one, other)
                self.assertTrue(is_numbered(both))
                self.assertGreaterEqual(len(both), len(pairs))
                for text in texts:
                    self.assertIs(both.takes(text), kind(one.takes(text), other.takes(text)))
            contrary = ~one
            self.assertEqual(contrary.rows(), one.rows())
            self.assertEqual(contrary.kinds(), [not kind for kind in one.kinds()])
            unlike = next((text for text in texts_over(letters, 9 if len(letters) == 1 else 6)
                           if one.takes(text) != other.takes(text)), None)
            self.assertEqual(is_same(one, other), unlike is None)
            self.assertEqual(parting(one, other), unlike)

    def test_the_paired_machine_is_not_the_least_one(self):
        self.assertEqual(SINGLE & SINGLE, SINGLE)
        self.assertEqual((SINGLE & PAIRS).rows(), [[1, 0], [2, 1], [3, 2], [3, 3]])
        self.assertEqual((SINGLE - SINGLE).kinds(), [False] * 3)
        self.assertEqual((LAST | ~LAST).rows(), LAST.rows())
        back = Machine("ab", [[2, 1], [1, 1], [2, 2]], [True, False, True])
        self.assertEqual((back | back).rows(), [[1, 2], [1, 1], [2, 2]])
        self.assertEqual((~back).rows(), back.rows())

    def test_just_40_pairs(self):
        five, eight = counter("ab", 5, [0]), counter("ab", 8, [3])
        for joined, _ in JOINS:
            self.assertEqual(len(joined(five, eight)), 40)
        self.assertEqual((five & eight).first_taken(), "a" * 35)
        self.assertEqual(len(five & five), 5)

    def test_more_pairs(self):
        for many, other_many in [(6, 7), (40, 39), (1, 40)]:
            one, other = counter("ab", many, [0]), counter("ab", other_many, [0])
            for joined, _ in JOINS:
                if many * other_many > 40:
                    self.assert_too_many("places", 40, joined, one, other)
                else:
                    self.assertEqual(len(joined(one, other)), 40)

    def test_pairs_that_are_not_come_to_do_not_count(self):
        forty = counter("ab", 40, [0])
        self.assertEqual(len(forty & counter("ab", 20, [1])), 40)
        self.assertEqual(forty & forty, forty)

    def test_parting_of_many_places(self):
        one, other = counter("a", 40, [39]), counter("a", 39, [38])
        self.assertEqual(parting(one, other), "a" * 38)
        self.assertEqual(parting(counter("a", 40, [0]), counter("a", 39, [0])), "a" * 39)
        self.assertEqual(parting(counter("a", 40, [38, 39]), counter("a", 39, [38])), "a" * 39)
        self.assertEqual(parting(counter("ab", 40, range(39)), counter("ab", 39, range(39))), "a" * 39)
        self.assertIsNone(parting(other=SINGLE, one=SINGLE))
        self.assertIs(is_same(other=SINGLE.least(), one=SINGLE), True)
        self.assertEqual(parting(ALL, EMPTY_TEXT), "a")

    def test_wrong_values_on_the_right(self):
        for value in OTHERS:
            if not isinstance(value, Machine):
                for joined, _ in JOINS:
                    self.assert_raised(InvalidMachine, {"value": value}, joined, SINGLE, value)
        for value in [0, 1, "", (), Sum.whole("ab")]:
            for joined, _ in JOINS:
                self.assert_raised(InvalidMachine, {"value": value}, joined, SINGLE, value)

    def test_other_letters(self):
        other = Machine("ac", [[0, 0]], [True])
        many = counter("abc", 40, [0])
        for asked in [is_same, parting] + [joined for joined, _ in JOINS]:
            self.assert_raised(OtherLetters, {"one": "ab", "other": "ac"}, asked, SINGLE, other)
            self.assert_raised(OtherLetters, {"one": "ac", "other": "ab"}, asked, other, SINGLE)
            # Ahead of the pairs that are too many.
            self.assert_raised(OtherLetters, {"one": "abc", "other": "ab"}, asked, many, counter("ab", 39, [0]))

    def test_nothing_is_changed(self):
        one, other = counter("ab", 6, [0]), counter("ab", 7, [0])
        for joined, _ in JOINS:
            self.assertRaises(TooMany, joined, one, other)
            joined(SINGLE, PAIRS)
        self.assertEqual((one, other), (counter("ab", 6, [0]), counter("ab", 7, [0])))
        self.assertEqual(eval(repr(SINGLE)), SINGLE)
        self.assertEqual(SINGLE | PAIRS, SINGLE | PAIRS)
