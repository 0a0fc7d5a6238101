"""Lines, what is heard on them, and cuts: examples, edges, plain readings, wrong inputs."""

import random
from itertools import combinations, product

from missedparts.errors import InvalidLetters, InvalidLine, InvalidText, OtherLetters
from missedparts.lines import are_alike, cuts, first_told, heard, is_clear, is_line, is_told_as, muddle
from missedparts.machines import Machine, is_same
from tests.plain import (
    ALL, EMPTY_TEXT, LAST, NOTHING, OTHERS, PAIRS, SINGLE, Case, chain, counter, place_of, some_machine, texts_over,
)

EXAMPLES = """
>>> from missedparts.machines import Machine, is_same
>>> single = Machine("ab", [[1, 0], [2, 1], [2, 2]], [False, True, False])
>>> pairs = Machine("ab", [[1, 0], [2, 1], [3, 2], [3, 3]], [True, False, True, False])
>>> last = Machine("ab", [[0, 1], [0, 1]], [False, True])
>>> from missedparts.lines import cuts, heard, is_clear, muddle
>>> thin = {"a": ["a"], "b": ["", "b"]}
>>> none_a = {"a": ["", "a"], "b": ["b"]}
>>> [is_clear(single, pairs, thin), muddle(single, pairs, none_a), cuts(single, pairs, none_a), is_same(heard(last, thin), last)]
[True, '', [(('a', ''),)], False]
"""
EXACT = {"a": ["a"], "b": ["b"]}
THIN = {"a": ["a"], "b": ["", "b"]}
NONE_A = {"a": ["", "a"], "b": ["b"]}
MUTE = {"a": [""], "b": [""]}
MIXED = {"a": ["", "a", "b"], "b": ["b", "", "a"]}
SIX = counter("ab", 6, [0])
NO_LINES = OTHERS + [
    0, "", "ab", (), [], ["a", "b"], [["a"], ["b"]], [("a", ["a"]), ("b", ["b"])], {"a": ["a"]}, {"b": ["b"]}, {**EXACT, "c": ["c"]},
    {**EXACT, "": [""]}, {**EXACT, None: []}, {"a": ["a"], "B": ["b"]}, {"a": ["a"], 1: ["b"]}, {"a": ["a"], ("b",): ["b"]},
    {"a": ["a"], "b": []}, {"a": [], "b": ["b"]}, {"a": ["a"], "b": ()}, {"a": ["a"], "b": "b"}, {"a": ["a"], "b": ""},
    {"a": ["a"], "b": None}, {"a": ["a"], "b": {"b": True}}, {"a": ["a"], "b": {"b"}}, {"a": ["a", "a"], "b": ["b"]},
    {"a": ["a"], "b": ["", "b", ""]}, {"a": ["a"], "b": ["ab"]}, {"a": ["a"], "b": ["c"]}, {"a": ["a"], "b": ["b", None]},
    {"a": ["a"], "b": [True]}, {"a": ["a"], "b": [0]}, {"a": ["a"], "b": [["b"]]}, {"a": ["a"], "b": [("b",)]},
    {"a": ["A"], "b": ["b"]}, {"a": [b"a"], "b": ["b"]}, {"ab": ["a"], "b": ["b"]}, {"a": ["-"], "b": ["b"]}, SINGLE,
]


def some_line(source, letters):
    """A line over the letters."""
    hearings = [""] + list(letters)
    return {letter: source.sample(hearings, source.choice([1, 1, 2, 2, 3, 4][:2 * len(letters)])) for letter in letters}


def heard_of(text, line):
    """All texts that can be heard of a text."""
    return {"".join(row) for row in product(*[line[letter] for letter in text])}


def can_be_heard_of(machine, line, text):
    """Whether the text can be heard of one that the machine takes, with sets of places and positions."""
    return first_plain(machine, line, text, [""]) is not None


def first_plain(machine, line, text, texts):
    """The least text that is taken and heard so: whether there is one is told exactly, but it is sought among few texts."""
    met, waiting = {(0, 0)}, [(0, 0)]
    while waiting:
        place, at = waiting.pop()
        for letter in machine.letters:
            for hearing in line[letter]:
                if text.startswith(hearing, at):
                    state = (machine.goal(place, letter), at + len(hearing))
                    if state not in met:
                        met.add(state)
                        waiting.append(state)
    if not any((place, len(text)) in met for place in range(len(machine)) if machine.kinds()[place]):
        return None
    for told in texts:
        if machine.takes(told) and text in heard_of(told, line):
            return told
    return "?"


class Examples(Case):
    def test_as_they_stand_in_the_document(self):
        self.assert_examples(EXAMPLES, 8)


class IsLine(Case):
    def test_right_ones(self):
        for letters, value in [
                ("ab", EXACT), ("ab", THIN), ("ab", MUTE), ("ab", MIXED), ("a", {"a": ["a"]}), ("a", {"a": [""]}), ("a", {"a": ("a", "")}),
                ("ab", {"b": ("a",), "a": ["b"]}), ("abc", {"c": ["a", "b", "c", ""], "a": ["", "c", "b", "a"], "b": [""]})]:
            self.assertIs(is_line(letters, value), True, value)
            self.assertIs(is_line(value=value, letters=letters), True)
            if letters != "abc":
                self.assertIs(is_line("abc", value), False)

    def test_any_value(self):
        for value in NO_LINES:
            self.assertIs(is_line("ab", value), False, value)

    def test_wrong_letters(self):
        for value in OTHERS + [0, "", "ba", "aa", "abcd", ("a", "b")]:
            self.assert_raised(InvalidLetters, {"value": value}, is_line, value, EXACT)
            self.assert_raised(InvalidLetters, {"value": value}, is_line, value, None)


class Heard(Case):
    def test_by_a_plain_reading(self):
        source = random.Random(1)
        for _ in range(200):
            letters = source.choice(["a", "ab", "abc"])
            machine, line = some_machine(source, letters, 5), some_line(source, letters)
            found = heard(machine, line)
            self.assertEqual(found, found.least())
            self.assertEqual(found.letters, letters)
            for text in texts_over(letters, {1: 6, 2: 4, 3: 3}[len(letters)]):
                self.assertIs(found.takes(text), can_be_heard_of(machine, line, text), (machine, line, text))

    def test_edges(self):
        for machine, line, expected in [
                (SINGLE, EXACT, SINGLE), (LAST, EXACT, LAST), (NOTHING, MIXED, NOTHING), (ALL, MUTE, EMPTY_TEXT), (SINGLE, MUTE, EMPTY_TEXT),
                (NOTHING, MUTE, NOTHING), (LAST, THIN, ALL), (EMPTY_TEXT, MIXED, EMPTY_TEXT), (SINGLE, MIXED, ALL),
                (LAST, {"a": ["b"], "b": ["a"]}, Machine("ab", [[1, 0], [1, 0]], [False, True])),
                (chain("ab", 2), {"a": ["a"], "b": ["a"]}, Machine("ab", [[1, 2], [3, 2], [2, 2], [2, 2]], [False, False, False, True])),
                (counter("abc", 2, [1]), {"a": ["c"], "b": ["c"], "c": ["c", ""]}, Machine("abc", [[1, 1, 0], [1, 1, 1]], [True, False]))]:
            self.assertEqual(heard(machine, line), expected, (machine, line))
            self.assertEqual(heard(line=line, machine=machine), expected)
        # The sequences of keys and of hearings have no effect, nor has it whether these are lists.
        self.assertEqual(heard(SINGLE, {"b": ("b", ""), "a": ("a",)}), heard(SINGLE, THIN))

    def test_many_places(self):
        source = random.Random(2)
        most = 0
        for _ in range(200):
            rows = [[source.randrange(5) for _ in "abc"] for _ in range(5)]
            machine = Machine.come_to("abc", rows, [source.random() < 0.4 for _ in range(5)])
            line = some_line(source, "abc")
            found = heard(machine, line)
            most = max(most, len(found))
            for text in texts_over("abc", 3):
                self.assertIs(found.takes(text), can_be_heard_of(machine, line, text))
        self.assertGreater(most, 12)


class FirstTold(Case):
    def test_by_a_plain_reading(self):
        source = random.Random(3)
        seen = {"found": 0, "none": 0}
        for _ in range(300):
            letters = source.choice(["a", "ab", "abc"])
            machine, line = some_machine(source, letters, 4), some_line(source, letters)
            text = "".join([source.choice(letters) for _ in range(source.randint(0, 4))])
            expected = first_plain(machine, line, text, texts_over(letters, {1: 9, 2: 6, 3: 4}[len(letters)]))
            found = first_told(machine, line, text)
            if expected == "?":
                self.assertIs(machine.takes(found), True)
                self.assertIs(is_told_as(line, found, text), True)
            else:
                seen["none" if expected is None else "found"] += 1
                self.assertEqual(found, expected, (machine, line, text))
        self.assertGreater(min(seen.values()), 50)

    def test_edges(self):
        for machine, line, text, expected in [
                (SINGLE, EXACT, "bab", "bab"), (SINGLE, EXACT, "bb", None), (SINGLE, NONE_A, "bb", "abb"), (SINGLE, NONE_A, "", "a"),
                (PAIRS, NONE_A, "bab", "aabb"[:0] + "abab"), (LAST, MUTE, "", "b"), (LAST, MUTE, "a", None), (NOTHING, MIXED, "", None),
                (ALL, MIXED, "ba", "aa"), (LAST, MIXED, "ba", "ab"), (EMPTY_TEXT, MIXED, "a", None), (EMPTY_TEXT, MIXED, "", "")]:
            self.assertEqual(first_told(machine, line, text), expected, (machine, line, text))
            self.assertEqual(first_told(text=text, line=line, machine=machine), expected)

    def test_long_texts(self):
        self.assertEqual(first_told(LAST, THIN, "ab" * 4500), "ab" * 4500)
        self.assertEqual(first_told(LAST, THIN, "a" * 9000), "a" * 9000 + "b")
        self.assertEqual(first_told(counter("ab", 5, [4]), MIXED, "b" * 9000), "a" * 9004)
        self.assertEqual(first_told(LAST, {"a": ["b"], "b": ["a", ""]}, "b" * 8999), "a" * 8999 + "b")
        self.assertIsNone(first_told(SINGLE, THIN, "ab" * 4500))

    def test_told_as(self):
        source = random.Random(4)
        both = {True: 0, False: 0}
        for _ in range(400):
            letters = source.choice(["a", "ab", "abc"])
            line = some_line(source, letters)
            told = "".join([source.choice(letters) for _ in range(source.randint(0, 5))])
            hearings = heard_of(told, line)
            for text in texts_over(letters, 3):
                both[text in hearings] += 1
                self.assertIs(is_told_as(line, told, text), text in hearings)
        self.assertGreater(min(both.values()), 500)
        self.assertIs(is_told_as(MIXED, "ab" * 4500, "b" * 8999), True)
        self.assertIs(is_told_as(MIXED, "ab" * 4500, "b" * 9001), False)


class Clear(Case):
    def test_by_a_plain_reading(self):
        source = random.Random(5)
        both = {True: 0, False: 0}
        for _ in range(300):
            letters = source.choice(["a", "ab", "ab", "abc"])
            one, other = some_machine(source, letters, 4), some_machine(source, letters, 4)
            line = some_line(source, letters)
            mine, theirs = heard(one, line), heard(other, line)
            least = [text for text in texts_over(letters, 5) if mine.takes(text) and theirs.takes(text)][:1]
            found = muddle(one, other, line)
            self.assertIs(is_clear(one, other, line), found is None)
            both[found is None] += 1
            if least or found is None:
                self.assertEqual(least, [] if found is None else [found])
            else:
                self.assertEqual((mine.takes(found), theirs.takes(found)), (True, True))
            self.assertEqual(muddle(other, one, line), found)
            self.assertIs(are_alike(one, other, line), is_same(mine, theirs))
        self.assertGreater(min(both.values()), 60)

    def test_edges(self):
        for one, other, line, least, alike in [
                (SINGLE, PAIRS, EXACT, None, False), (SINGLE, PAIRS, THIN, None, False), (SINGLE, PAIRS, NONE_A, "", False),
                (SINGLE, SINGLE, EXACT, "a", True), (NOTHING, ALL, MUTE, None, False), (NOTHING, NOTHING, MIXED, None, True),
                (ALL, LAST, MUTE, "", True), (LAST, ~LAST, EXACT, None, False), (LAST, ~LAST, THIN, "", False),
                (LAST, ~LAST, {"a": ["b"], "b": ["a"]}, None, False), (EMPTY_TEXT, ~EMPTY_TEXT, {"a": ["a"], "b": [""]}, "", False),
                (SINGLE, chain("ab", 2), {"a": ["a"], "b": ["a", "b"]}, "aa", False)]:
            self.assertEqual(muddle(one, other, line), least, (one, other, line))
            self.assertEqual(muddle(line=line, other=other, one=one), least)
            self.assertIs(is_clear(one, other, line), least is None)
            self.assertIs(is_clear(line=line, other=other, one=one), least is None)
            self.assertIs(are_alike(one, other, line), alike)
            self.assertIs(are_alike(line=line, other=other, one=one), alike)


class Cuts(Case):
    def cuts_plain(self, one, other, line):
        hearings = sorted([(letter, hearing) for letter in line for hearing in line[letter]])
        for many in range(len(hearings) + 1):
            found = []
            for cut in combinations(hearings, many):
                left = {letter: [each for each in line[letter] if (letter, each) not in cut] for letter in line}
                if all(left.values()) and is_clear(one, other, left):
                    found.append(cut)
            if found:
                return found
        return None

    def test_by_a_plain_reading(self):
        source = random.Random(6)
        sizes, several = {}, 0
        for _ in range(700):
            letters = source.choice(["a", "ab", "ab", "abc"])
            one, other = some_machine(source, letters, 4), some_machine(source, letters, 4)
            if source.random() < 0.5:
                other = ~one
            line = some_line(source, letters)
            found = cuts(one, other, line)
            self.assertEqual(found, self.cuts_plain(one, other, line))
            size = None if found is None else len(found[0])
            sizes[size] = sizes.get(size, 0) + 1
            several += found is not None and len(found) > 1
        self.assertGreater(len(sizes), 3)
        self.assertGreater(several, 5)

    def test_edges(self):
        full = {letter: ["c", "a", "", "b"] for letter in "cab"}
        for one, other, line, expected in [
                (SINGLE, PAIRS, THIN, [()]), (NOTHING, ALL, MIXED, [()]), (SINGLE, SINGLE, EXACT, None), (ALL, ALL, MIXED, None),
                (EMPTY_TEXT, ALL, MUTE, None), (EMPTY_TEXT, ~EMPTY_TEXT, MUTE, None), (SINGLE, PAIRS, MUTE, None),
                (SINGLE, PAIRS, NONE_A, [(("a", ""),)]), (LAST, ~LAST, THIN, [(("b", ""),)]),
                (EMPTY_TEXT, ~EMPTY_TEXT, {"a": ["a", ""], "b": ["", "a"]}, [(("a", ""), ("b", ""))]),
                (LAST, ~LAST, {"a": ["a", "b"], "b": ["b", "a"]}, [(("a", "a"), ("b", "b")), (("a", "b"), ("b", "a"))])]:
            self.assertEqual(cuts(one, other, line), expected, (one, other, line))
            self.assertEqual(cuts(line=line, other=other, one=one), expected)
        one = counter("abc", 3, [1])
        found = cuts(one, ~one, full)
        self.assertEqual([len(cut) for cut in found], [3] * len(found))
        self.assertEqual(found, self.cuts_plain(one, ~one, full))

    def test_five_places_and_all_hearings(self):
        full = {letter: ["", "a", "b", "c"] for letter in "abc"}
        five = counter("abc", 5, [1])
        self.assertEqual(cuts(five, counter("abc", 5, [2]), full), [(("a", ""), ("b", ""), ("c", ""))])
        self.assertIsNone(cuts(five, five, full))


class Wrong(Case):
    ASKED = [is_clear, muddle, are_alike, cuts]

    def test_lines(self):
        for value in NO_LINES + [{letter: [letter] for letter in "abc"}, {"x": ["x"], "y": ["y"]}]:
            self.assert_raised(InvalidLine, {"value": value}, heard, SINGLE, value)
            self.assert_raised(InvalidLine, {"value": value}, heard, SIX, value)
            # Ahead of what is wrong with a text, of other letters and of too many places.
            self.assert_raised(InvalidLine, {"value": value}, first_told, SIX, value, "c")
            for asked in self.ASKED:
                self.assert_raised(InvalidLine, {"value": value}, asked, SINGLE, PAIRS, value)
                self.assert_raised(InvalidLine, {"value": value}, asked, SIX, counter("abc", 6, []), value)
        # It is the letters of the one machine that count.
        self.assert_raised(InvalidLine, {"value": EXACT}, is_clear, counter("abc", 2, []), SINGLE, EXACT)
        self.assert_raised(OtherLetters, {"one": "ab", "other": "abc"}, is_clear, SINGLE, counter("abc", 2, []), EXACT)

    def test_texts(self):
        for value in OTHERS + [0, "c", "A", ("a",), ["a"], ()]:
            self.assert_raised(InvalidText, {"value": value}, first_told, SINGLE, EXACT, value)
            self.assert_raised(InvalidText, {"value": value}, first_told, SIX, EXACT, value)

    def test_other_letters(self):
        for asked in self.ASKED:
            for one in [SINGLE, SIX]:
                for other in [Machine("a", [[0]], [True]), counter("abc", 6, []), counter("xy", 40, [])]:
                    self.assert_raised(OtherLetters, {"one": "ab", "other": other.letters}, asked, one, other, EXACT)

    def test_6_places(self):
        for machine in [SIX, counter("ab", 40, [])]:
            self.assert_too_many("places", 5, heard, machine, EXACT)
            self.assert_too_many("places", 5, first_told, machine, EXACT, "")
            for asked in self.ASKED:
                for one, other in [(machine, SINGLE), (SINGLE, machine), (machine, machine)]:
                    self.assert_too_many("places", 5, asked, one, other, EXACT)
        five = counter("ab", 5, [0])
        self.assertEqual(heard(five, EXACT), five)
        for asked in self.ASKED:
            asked(five, five, MIXED)

    def test_nothing_is_changed(self):
        line = {"b": ["b", ""], "a": ["b", "a", ""]}
        for asked in self.ASKED:
            self.assertEqual(asked(SINGLE, LAST, line), asked(SINGLE, LAST, line))
        heard(SINGLE, line)
        first_told(SINGLE, line, "b")
        cuts(SINGLE, PAIRS, line)
        self.assertEqual(line, {"b": ["b", ""], "a": ["b", "a", ""]})
        self.assertEqual(list(line), ["b", "a"])
        self.assertEqual(sorted(["b", "", "ab"], key=place_of), ["", "b", "ab"])
