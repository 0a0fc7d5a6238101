"""Machines made of others by small changes: examples, edges, plain readings, wrong inputs."""

import random

from missedparts.edits import left_out, mirrored, redirected, renamed, turned
from missedparts.errors import InvalidLetter, InvalidLetters, InvalidPlace, InvalidPlaces, NotComeTo, TooMany
from missedparts.machines import Machine
from tests.plain import ALL, EMPTY_TEXT, LAST, NOTHING, OTHERS, PAIRS, SINGLE, Case, chain, counter, some_machine, texts_over

EXAMPLES = """
>>> from missedparts.machines import Machine
>>> single = Machine("ab", [[1, 0], [2, 1], [2, 2]], [False, True, False])
>>> last = Machine("ab", [[0, 1], [0, 1]], [False, True])
>>> from missedparts.edits import left_out, mirrored, renamed, turned
>>> [left_out(single, "b"), mirrored(last), turned(last, [0]), renamed(last, "xy").letters]
[Machine('a', [[1], [2], [2]], [False, True, False]), Machine('ab', [[1, 2], [1, 1], [2, 2]], [False, False, True]), Machine('ab', [[0, 1], [0, 1]], [True, True]), 'xy']
"""
NO_LETTERS = OTHERS + [0, 1, "", "ba", "aa", "abcd", "aB", "a b", ("a", "b"), ["a", "b"]]
NO_PLACES = OTHERS + [3, 10 ** 29, "0", "", (0,), [0], (), [], {}]
# Machines that have 40 and 41 places when "c" is left out, and when they are read from the end.
FORTY = {
    40: Machine("abc", [[1, 2, 0], [0, 3, 1], [4, 5, 3], [3, 1, 3], [6, 4, 4], [1, 6, 0], [7, 7, 6], [3, 5, 4]],
                [False, False, False, False, True, False, False, False]),
    41: Machine("abc", [[1, 2, 0], [3, 4, 1], [5, 5, 4], [0, 6, 3], [4, 6, 4], [3, 1, 3], [7, 0, 6], [5, 6, 7]],
                [True, True, False, False, True, True, False, False]),
}
FORTY_READ = Machine("ab", [[0, 1], [2, 0], [1, 3], [4, 5], [3, 3], [4, 4]], [False, True, False, True, False, False])
FORTY_ONE_READ = Machine("ab", [[1, 2], [0, 3], [2, 4], [5, 0], [2, 1], [0, 1]], [False, True, True, False, True, False])


def last_but(many):
    """The machine that takes the texts of which the letter with so many ahead of it is an a."""
    rows = [[at + 1, at + 1] for at in range(many)] + [[many + 1, many + 2], [many + 1] * 2, [many + 2] * 2]
    return Machine("ab", rows, [at == many + 1 for at in range(many + 3)])


def left_out_plain(machine, letter, texts, most):
    """Those of the texts that are left of texts with at most so many letters that the machine takes."""
    found = {text.replace(letter, "") for text in texts_over(machine.letters, most) if machine.takes(text)}
    return [text for text in texts if text in found]


class Examples(Case):
    def test_as_they_stand_in_the_document(self):
        self.assert_examples(EXAMPLES, 5)


class Renamed(Case):
    def test_some(self):
        for machine, letters in [(LAST, "xy"), (LAST, "ab"), (LAST, "bc"), (counter("abc", 3, [1]), "xyz"), (chain("a", 3), "q"),
                                 (counter("ab", 40, [7]), "cd")]:
            found = renamed(machine, letters)
            self.assertEqual(found, Machine(letters, machine.rows(), machine.kinds()))
            self.assertEqual(renamed(letters=letters, machine=machine), found)
            self.assertEqual(renamed(found, machine.letters), machine)
            for text in texts_over(machine.letters, 4):
                other = "".join([letters[machine.letters.index(letter)] for letter in text])
                self.assertIs(found.takes(other), machine.takes(text))
        # The numbers of the places stay, also where they are not as come to.
        odd = Machine("ab", [[2, 1], [1, 1], [2, 2]], [False, True, False])
        self.assertEqual(renamed(odd, "xy"), Machine("xy", [[2, 1], [1, 1], [2, 2]], [False, True, False]))

    def test_wrong_letters(self):
        for value in NO_LETTERS + ["x", "abc", "yx"]:
            self.assert_raised(InvalidLetters, {"value": value}, renamed, LAST, value)
        self.assert_raised(InvalidLetters, {"value": "ab"}, renamed, chain("a", 2), "ab")
        self.assert_raised(InvalidLetters, {"value": "ab"}, renamed, chain("abc", 2), "ab")


class LeftOut(Case):
    def test_by_a_plain_reading(self):
        source = random.Random(1)
        for _ in range(150):
            letters = source.choice(["ab", "abc"])
            machine = some_machine(source, letters, 4)
            letter = source.choice(letters)
            found = left_out(machine, letter)
            others = letters.replace(letter, "")
            self.assertEqual(found.letters, others)
            self.assertEqual(found, found.least())
            self.assertEqual(found.rows(), found.numbered().rows())
            texts = texts_over(others, 3 if letters == "ab" else 2)
            self.assertEqual([text for text in texts if found.takes(text)],
                             left_out_plain(machine, letter, texts, 12 if letters == "ab" else 7))

    def test_edges(self):
        for machine, letter, expected in [
                (SINGLE, "a", Machine("b", [[0]], [True])), (NOTHING, "a", Machine("b", [[0]], [False])),
                (ALL, "b", Machine("a", [[0]], [True])), (EMPTY_TEXT, "a", Machine("b", [[1], [1]], [True, False])),
                (LAST, "b", Machine("a", [[0]], [True])), (LAST, "a", Machine("b", [[1], [1]], [False, True])),
                (counter("xyz", 2, [0]), "y", Machine("xz", [[0, 0]], [True]))]:
            self.assertEqual(left_out(machine, letter), expected)
            self.assertEqual(left_out(letter=letter, machine=machine), expected)

    def test_8_places(self):
        eight = counter("ab", 8, [3])
        self.assertEqual(left_out(eight, "a"), Machine("b", [[0]], [True]))
        for machine in [counter("ab", 9, [3]), counter("abc", 40, [3])]:
            self.assert_too_many("places", 8, left_out, machine, "a")
        self.assert_too_many("places", 8, left_out, chain("ab", 7), "b")

    def test_40_places_behind_it(self):
        for many, there in [(40, True), (41, False)]:
            machine = FORTY[many]
            self.assertEqual(len(machine), 8)
            if there:
                self.assertEqual(len(left_out(machine, "c")), 40)
            else:
                self.assert_too_many("places", 40, left_out, machine, "c")

    def test_wrong_letters(self):
        for value in OTHERS + [0, "", "c", "ab", "A", ("a",), ["a"], 1]:
            self.assert_raised(InvalidLetter, {"value": value}, left_out, SINGLE, value)
            # Ahead of too many places.
            self.assert_raised(InvalidLetter, {"value": value}, left_out, counter("ab", 9, []), value)
        for value in ["a", "b", None, ""]:
            for many in [1, 8, 9]:
                self.assert_raised(InvalidLetter, {"value": value}, left_out, counter("a", many, [0]), value)


class Mirrored(Case):
    def test_by_a_plain_reading(self):
        source = random.Random(3)
        sizes = {}
        for _ in range(200):
            letters = source.choice(["a", "ab", "abc"])
            machine = some_machine(source, letters, 5)
            found = mirrored(machine)
            sizes[len(found)] = True
            self.assertEqual(found, found.least())
            self.assertEqual(mirrored(found), machine.least())
            for text in texts_over(letters, {1: 9, 2: 6, 3: 4}[len(letters)]):
                self.assertIs(found.takes(text), machine.takes(text[::-1]))
        self.assertGreater(len(sizes), 6)

    def test_edges(self):
        for machine, expected in [(ALL, ALL), (NOTHING, NOTHING), (EMPTY_TEXT, EMPTY_TEXT), (SINGLE, SINGLE),
                                  (counter("ab", 40, [7]), counter("ab", 40, [7])), (chain("abc", 38), chain("abc", 38))]:
            self.assertEqual(mirrored(machine), expected)
            self.assertEqual(mirrored(machine=machine), expected)

    def test_40_places(self):
        # Read from the end, each row of the last letters must be known.
        for many, size in [(0, 2), (1, 4), (2, 8), (3, 16), (4, 32)]:
            self.assertEqual(len(mirrored(last_but(many))), size)
        for many in [5, 6, 36]:
            self.assert_too_many("places", 40, mirrored, last_but(many))
        for machine, many in [(FORTY_READ, 40), (FORTY_ONE_READ, 41)]:
            if many == 40:
                self.assertEqual(len(mirrored(machine)), many)
            else:
                self.assert_too_many("places", 40, mirrored, machine)


class Turned(Case):
    def test_by_a_plain_reading(self):
        source = random.Random(4)
        for _ in range(100):
            machine = some_machine(source, "ab", 6)
            places = source.sample(range(len(machine)), source.randint(0, len(machine)))
            found = turned(machine, places)
            self.assertEqual(found.rows(), machine.rows())
            for place in range(len(machine)):
                self.assertIs(found.kinds()[place], machine.kinds()[place] != (place in places))
            self.assertEqual(turned(places=tuple(places), machine=machine), found)
            self.assertEqual(turned(found, places), machine)
        self.assertEqual(turned(SINGLE, []), SINGLE)
        self.assertEqual(turned(SINGLE, [2, 0, 1]), ~SINGLE)
        self.assertEqual(turned(counter("a", 40, []), [39]), counter("a", 40, [39]))

    def test_wrong_places(self):
        for value in OTHERS + [0, "", "01", {0: 1}, {}, {0}, range(2), None]:
            if not isinstance(value, (list, tuple)):
                self.assert_raised(InvalidPlaces, {"position": None}, turned, SINGLE, value)
        for value in NO_PLACES:
            self.assert_raised(InvalidPlaces, {"position": 0}, turned, SINGLE, [value])
            self.assert_raised(InvalidPlaces, {"position": 2}, turned, SINGLE, (2, 1, value, None))
        for places, position in [([0, 0], 1), ([0, 1, 2, 1], 3), ([2, 1, 2, 3], 2), ([0, True], 1), ([1, True], 1), ([3, 3], 0)]:
            self.assert_raised(InvalidPlaces, {"position": position}, turned, SINGLE, places)


class Redirected(Case):
    def test_by_a_plain_reading(self):
        source = random.Random(5)
        lost = 0
        for _ in range(400):
            letters = source.choice(["a", "ab", "abc"])
            machine = some_machine(source, letters, 5)
            place, goal = source.randrange(len(machine)), source.randrange(len(machine))
            letter = source.choice(letters)
            rows = machine.rows()
            rows[place][letters.index(letter)] = goal
            met, waiting = {0}, [0]
            while waiting:
                for each in rows[waiting.pop()]:
                    if each not in met:
                        met.add(each)
                        waiting.append(each)
            missing = [each for each in range(len(rows)) if each not in met]
            if missing:
                lost += 1
                self.assert_raised(NotComeTo, {"place": missing[0]}, redirected, machine, place, letter, goal)
            else:
                self.assertEqual(redirected(machine, place, letter, goal), Machine(letters, rows, machine.kinds()))
        self.assertGreater(lost, 40)

    def test_edges(self):
        self.assertEqual(redirected(SINGLE, 2, "b", 0), Machine("ab", [[1, 0], [2, 1], [2, 0]], [False, True, False]))
        self.assertEqual(redirected(goal=0, letter="b", place=0, machine=SINGLE), SINGLE)
        # Of the places that are not come to any more the least one is told.
        self.assert_raised(NotComeTo, {"place": 1}, redirected, SINGLE, 0, "a", 0)
        self.assert_raised(NotComeTo, {"place": 2}, redirected, SINGLE, 1, "a", 0)
        self.assert_raised(NotComeTo, {"place": 1}, redirected, SINGLE, 0, "a", 2)
        self.assert_raised(NotComeTo, {"place": 38}, redirected, counter("a", 40, []), 37, "a", 0)

    def test_wrong_ones(self):
        for value in NO_PLACES:
            self.assert_raised(InvalidPlace, {"value": value}, redirected, SINGLE, value, "a", 0)
            self.assert_raised(InvalidPlace, {"value": value}, redirected, SINGLE, value, None, None)
            self.assert_raised(InvalidPlace, {"value": value}, redirected, SINGLE, 0, "a", value)
        for value in OTHERS + [0, "", "c", "ab", "A", ("a",), ["a"]]:
            self.assert_raised(InvalidLetter, {"value": value}, redirected, SINGLE, 0, value, 0)
            self.assert_raised(InvalidLetter, {"value": value}, redirected, SINGLE, 2, value, None)

    def test_nothing_is_changed(self):
        machine, places = eval(repr(SINGLE)), [0]
        redirected(machine, 2, "b", 0)
        turned(machine, places)
        mirrored(machine)
        left_out(machine, "a")
        self.assertEqual((machine, places), (SINGLE, [0]))
        self.assertEqual(mirrored(PAIRS), mirrored(PAIRS))
