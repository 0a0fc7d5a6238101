"""What is sure behind a heard text: examples, edges, plain readings, wrong inputs."""

import random
from unittest import mock

from missedparts import heard as module
from missedparts.closures import down, up
from missedparts.errors import InvalidText, InvalidTexts, NeverHeard, OtherLetters, TooMany
from missedparts.heard import (
    alarms, can_be_heard, first_sure, maybe, never_added, sure, sure_added, sure_of_all, unsure,
)
from missedparts.machines import Machine
from missedparts.sums import Sum
from tests.plain import (
    ALL, EMPTY_TEXT, FEW, LAST, NOTHING, OTHERS, PAIRS, SINGLE, Case, chain, counter, is_part_plain, place_of, some_machine,
    texts_over, wholes_plain,
)

EXAMPLES = """
>>> from missedparts.machines import Machine
>>> single = Machine("ab", [[1, 0], [2, 1], [2, 2]], [False, True, False])
>>> pairs = Machine("ab", [[1, 0], [2, 1], [3, 2], [3, 3]], [True, False, True, False])
>>> from missedparts.heard import alarms, maybe, never_added, sure, unsure
>>> some_a = Machine("ab", [[1, 0], [1, 1]], [False, True])
>>> [sure(pairs, some_a, "a"), sure(pairs, some_a, "b"), maybe(pairs, some_a, "b"), unsure(pairs, some_a, "b"), alarms(pairs, some_a)]
[True, False, True, 'b', ['a']]
>>> never_added(single)
Sum('ab', [('b*',)])
"""
SOME_A = Machine("ab", [[1, 0], [1, 1]], [False, True])
FIVE = counter("ab", 5, [0])
# Told and wish with so many alarms: among all that a search met, these are the numbers on both sides of 200.
MANY = [
    (Machine("abc", [[1, 1, 2], [3, 3, 2], [0, 0, 1], [3, 3, 3]], [False, True, True, False]),
     Machine("abc", [[0, 0, 1], [1, 1, 2], [2, 2, 3], [3, 3, 3]], [True, True, False, True]), 165),
    (Machine("abc", [[1, 0, 0], [2, 1, 1], [3, 2, 2], [3, 3, 3]], [False, True, True, False]),
     Machine("abc", [[1, 2, 2], [1, 1, 1], [2, 3, 3], [0, 1, 1]], [True, True, False, False]), 280),
    (Machine("abc", [[1, 1, 1], [2, 2, 2], [3, 0, 3], [3, 3, 3]], [False, False, True, False]),
     Machine("abc", [[0, 1, 0], [2, 2, 2], [1, 3, 1], [3, 3, 3]], [True, True, False, True]), 561),
]
HEARD = [sure, maybe, unsure, first_sure, sure_added]


def whole_plain(told, wish, kind, text):
    """The least text that told takes, that wish takes or not, and of which the text is a part."""
    both = told & wish if kind else told - wish
    return wholes_plain(both, [(told.letters + "*",)], text)


def have_whole_plain(machine, texts):
    """Whether the machine takes a text of which all of these texts are parts, position by position."""
    start = (0,) + tuple(0 for _ in texts)
    met, waiting = {start}, [start]
    while waiting:
        place, *positions = waiting.pop()
        if machine.kinds()[place] and positions == [len(text) for text in texts]:
            return True
        for letter in machine.letters:
            behind = [at + (text[at:at + 1] == letter) for text, at in zip(texts, positions)]
            state = (machine.goal(place, letter), *behind)
            if state not in met:
                met.add(state)
                waiting.append(state)
    return False


def alarms_plain(told, wish, texts):
    """Those of the alarms that are among these texts, the least first."""
    found = []
    for text in texts:
        heard = whole_plain(told, ALL_OF[told.letters], True, text) is not None
        if heard and whole_plain(told, wish, False, text) is None and not any(is_part_plain(each, text) for each in found):
            found.append(text)
    return found


def takes_few(source, letters):
    """A machine of which most often just one place takes, to which no short way leads."""
    rows = [[source.randrange(at, min(at + 2, 3) + 1) for _ in letters] for at in range(4)]
    return Machine.come_to(letters, rows, [False, source.random() < 0.2, False, True])


ALL_OF = {letters: counter(letters, 1, [0]) for letters in ["a", "ab", "abc"]}


class Examples(Case):
    def test_as_they_stand_in_the_document(self):
        self.assert_examples(EXAMPLES, 7)


class Heard(Case):
    def test_by_a_plain_reading(self):
        source = random.Random(1)
        seen = {}
        for _ in range(1500):
            letters = source.choice(["a", "ab", "abc"])
            told, wish = some_machine(source, letters, 4), some_machine(source, letters, 4)
            text = "".join([source.choice(letters) for _ in range(source.randint(0, 6))])
            can = whole_plain(told, ALL_OF[letters], True, text) is not None
            self.assertIs(can_be_heard(told, text), can)
            if not can:
                for asked in HEARD[:4]:
                    self.assert_raised(NeverHeard, {"value": text}, asked, told, wish, text)
                seen["never"] = seen.get("never", 0) + 1
                continue
            least = whole_plain(told, wish, False, text)
            may = whole_plain(told, wish, True, text) is not None
            seen[least is None, may] = seen.get((least is None, may), 0) + 1
            self.assertIs(sure(told, wish, text), least is None)
            self.assertIs(maybe(told, wish, text), may)
            self.assertEqual(unsure(told, wish, text), least)
            begins = [at for at in range(len(text) + 1) if whole_plain(told, wish, False, text[:at]) is None]
            self.assertEqual(first_sure(told, wish, text), begins[0] if begins else None)
        # Behind a text that can be heard wish cannot be sure without being maybe so.
        self.assertEqual(sorted(map(str, seen)), ["(False, False)", "(False, True)", "(True, True)", "never"])
        self.assertGreater(min(seen.values()), 50)

    def test_edges(self):
        for told, wish, text, is_sure, is_maybe, least, first in [
                (PAIRS, SOME_A, "", False, True, "", None), (PAIRS, SOME_A, "a", True, True, None, 1),
                (PAIRS, SOME_A, "bab", True, True, None, 2), (ALL, ALL, "", True, True, None, 0),
                (ALL, ALL, "abba", True, True, None, 0), (ALL, NOTHING, "ab", False, False, "ab", None),
                (ALL, LAST, "ab", False, True, "aba", None), (EMPTY_TEXT, ALL, "", True, True, None, 0),
                (EMPTY_TEXT, NOTHING, "", False, False, "", None), (SINGLE, PAIRS, "bb", False, False, "abb", None),
                (SINGLE, SINGLE, "bbb", True, True, None, 0), (ALL, chain("ab", 2), "a", False, True, "a", None)]:
            self.assertIs(can_be_heard(told, text), True)
            self.assertIs(sure(told, wish, text), is_sure)
            self.assertIs(maybe(told, wish, text), is_maybe)
            self.assertEqual(unsure(told, wish, text), least)
            self.assertEqual(first_sure(told, wish, text), first)
            for asked in HEARD[:4]:
                self.assertEqual(asked(text=text, wish=wish, told=told), asked(told, wish, text))
        self.assertIs(can_be_heard(text="bb", told=SINGLE), True)
        self.assertIs(can_be_heard(SINGLE, "aa"), False)

    def test_nothing_can_be_heard(self):
        for wish in [ALL, NOTHING, SINGLE]:
            for text in ["", "a", "abab"]:
                self.assertIs(can_be_heard(NOTHING, text), False)
                for asked in HEARD:
                    self.assert_raised(NeverHeard, {"value": text}, asked, NOTHING, wish, text)
                for texts in [[text], (text, ""), [text, "b", text]]:
                    self.assert_raised(NeverHeard, {"value": texts}, sure_of_all, NOTHING, wish, texts)
            self.assertEqual(alarms(NOTHING, wish), [])

    def test_long_texts(self):
        for text in ["ab" * 4500, "b" * 9000]:
            self.assertIs(can_be_heard(LAST, text), True)
            self.assertIs(sure(LAST, SOME_A, text), text[0] == "a")
            self.assertIs(maybe(LAST, SOME_A, text), True)
            self.assertEqual(unsure(LAST, SINGLE, text), text)
            self.assertEqual(unsure(LAST, ~SOME_A, text), text if text[0] == "a" else "a" + text)
        self.assertEqual(first_sure(ALL, SOME_A, "b" * 8999 + "a"), 9000)
        self.assertIsNone(first_sure(ALL, SOME_A, "b" * 9000))
        self.assertIs(sure_added(ALL, SOME_A, "ab" * 4500), False)
        self.assertIs(sure_added(LAST, SOME_A, "b" * 8999 + "a"), False)
        for texts, found in [(["ab" * 4500, "ba" * 4500, "b" * 9000], True), (["b" * 9000, "b" * 8999], False)]:
            self.assertIs(sure_of_all(ALL, SOME_A, texts), found)
            self.assertIs(sure_of_all(LAST, SOME_A, texts), found)


class Alarms(Case):
    def test_by_a_plain_reading(self):
        source = random.Random(2)
        sizes = {}
        for _ in range(150):
            letters = source.choice(["a", "ab", "ab", "abc"])
            told, wish = some_machine(source, letters, 4), some_machine(source, letters, 4)
            found = alarms(told, wish)
            sizes[len(found)] = True
            texts = texts_over(letters, {1: 15, 2: 6, 3: 4}[len(letters)])
            self.assertEqual([text for text in found if len(text) <= len(texts[-1])], alarms_plain(told, wish, texts))
            self.assertEqual(found, sorted(found, key=place_of))
            for text in texts:
                if can_be_heard(told, text):
                    self.assertIs(sure(told, wish, text), any(is_part_plain(each, text) for each in found))
            for one in found:
                self.assertFalse(any(is_part_plain(other, one) for other in found if other != one))
                self.assertIs(sure(told, wish, one), True)
                for at in range(len(one)):
                    self.assertIs(sure(told, wish, one[:at] + one[at + 1:]), False)
        self.assertGreater(len(sizes), 4)

    def test_edges(self):
        for told, wish, expected in [
                (ALL, ALL, [""]), (ALL, NOTHING, []), (NOTHING, ALL, []), (NOTHING, NOTHING, []), (LAST, LAST, [""]),
                (ALL, SOME_A, ["a"]), (SINGLE, SOME_A, [""]), (EMPTY_TEXT, EMPTY_TEXT, [""]), (EMPTY_TEXT, LAST, []),
                (ALL, ~EMPTY_TEXT, ["a", "b"]), (ALL, LAST, []), (ALL, ~chain("ab", 1), ["aa", "ab", "ba", "bb"]),
                (SINGLE, ~chain("ab", 1), ["b"]), (PAIRS, ~chain("ab", 2), ["ab", "ba", "bbb"])]:
            self.assertEqual(alarms(told, wish), sorted(expected, key=place_of), (told, wish))
            self.assertEqual(alarms(wish=wish, told=told), alarms(told, wish))

    def test_200_texts(self):
        for told, wish, many in MANY:
            if many > 200:
                self.assert_too_many("texts", 200, alarms, told, wish)
            with mock.patch.object(module, "MOST_ALARMS", many):
                found = alarms(told, wish)
            with mock.patch.object(module, "MOST_ALARMS", many - 1):
                self.assert_too_many("texts", many - 1, alarms, told, wish)
            self.assertEqual(len(found), many)
            texts = texts_over("abc", len(found[-1]))
            self.assertEqual(found, alarms_plain(told, wish, texts))

    def test_stops_early(self):
        source = random.Random(3)
        seen = {True: 0, False: 0}
        while sum(seen.values()) < 60 or seen[True] < 20:
            told, wish = some_machine(source, "abc", 4), some_machine(source, "abc", 4)
            many = len(alarms(told, wish))
            if many < 3 and source.random() < 0.9:
                continue
            with mock.patch.object(module, "MOST_ALARMS", 3):
                seen[many > 3] += 1
                if many > 3:
                    self.assert_too_many("texts", 3, alarms, told, wish)
                else:
                    self.assertEqual(len(alarms(told, wish)), many)
        self.assertGreater(min(seen.values()), 10)


class SureOfAll(Case):
    def test_by_a_plain_reading(self):
        source = random.Random(4)
        seen = {}
        for _ in range(2500):
            letters = source.choice(["a", "ab", "abc"])
            told, wish = some_machine(source, letters, 4), some_machine(source, letters, 4)
            texts = ["".join([source.choice(letters) for _ in range(source.randint(0, 4))]) for _ in range(source.randint(1, 3))]
            if not have_whole_plain(told, texts):
                self.assert_raised(NeverHeard, {"value": texts}, sure_of_all, told, wish, texts)
                seen["never"] = seen.get("never", 0) + 1
                continue
            expected = not have_whole_plain(told - wish, texts)
            self.assertIs(sure_of_all(told, wish, texts), expected, (told, wish, texts))
            self.assertIs(sure_of_all(told, wish, tuple(texts[::-1])), expected)
            seen[expected] = seen.get(expected, 0) + 1
            if len(texts) == 1:
                self.assertIs(sure(told, wish, texts[0]), expected)
        self.assertGreater(min(seen.values()), 100)

    def test_one_two_and_three_texts(self):
        two = chain("ab", 2)
        for texts, heard in [(["a"], True), (["a", "b"], True), (["a", "b", "ab"], True), (["ab", "ba"], False),
                             (["a", "a", "b"], True), (["", "", ""], True), (["aa", "b"], False), (["aab"], False)]:
            if heard:
                self.assertIs(sure_of_all(two, ALL, texts), True)
                self.assertIs(sure_of_all(told=two, texts=texts, wish=NOTHING), False)
            else:
                self.assert_raised(NeverHeard, {"value": texts}, sure_of_all, two, ALL, texts)
        self.assertIs(sure_of_all(two, SOME_A, ["a", "b"]), True)
        self.assertIs(sure_of_all(two, SOME_A, ["b"]), False)
        # Each of both leaves it open, both together do not: what has "ab" and "ba" as parts has three letters.
        for texts, expected in [(["ab"], False), (["ba"], False), (["ab", "ba"], True)]:
            self.assertIs(sure_of_all(ALL, ~two, texts), expected)

    def test_wrong_texts(self):
        for value in OTHERS + [0, "", "a", "ab", (), [], {"a": "b"}, ["a"] * 4, ("a", "b", "a", "b"), [1] * 4]:
            if not isinstance(value, (list, tuple)) or not 1 <= len(value) <= 3:
                for told in [SINGLE, NOTHING, FIVE]:
                    self.assert_raised(InvalidTexts, {"position": None}, sure_of_all, told, PAIRS, value)
        for value in OTHERS + [0, "c", "A", ("a",)]:
            self.assert_raised(InvalidTexts, {"position": 0}, sure_of_all, SINGLE, PAIRS, [value])
            self.assert_raised(InvalidTexts, {"position": 1}, sure_of_all, SINGLE, PAIRS, ("a", value, None))
            # Ahead of other letters, too many places and what is never heard.
            self.assert_raised(InvalidTexts, {"position": 2}, sure_of_all, FIVE, counter("abc", 5, []), ["aa", "", value])

    def test_nothing_is_changed(self):
        texts = ["a", "b"]
        self.assertIs(sure_of_all(SINGLE, ALL, texts), sure_of_all(SINGLE, ALL, texts))
        self.assertEqual(texts, ["a", "b"])


class Added(Case):
    def test_by_a_plain_reading(self):
        source = random.Random(5)
        seen = {}
        for _ in range(1500):
            letters = source.choice(["a", "ab", "abc"])
            told, wish = some_machine(source, letters, 4), some_machine(source, letters, 4)
            text = "".join([source.choice(letters) for _ in range(source.randint(0, 6))])
            taken = [part for part in texts_over(letters, len(text)) if told.takes(part) and is_part_plain(part, text)]
            if not taken:
                self.assert_raised(NeverHeard, {"value": text}, sure_added, told, wish, text)
                seen["never"] = seen.get("never", 0) + 1
                continue
            expected = all([wish.takes(part) for part in taken])
            self.assertIs(sure_added(told, wish, text), expected)
            seen[expected] = seen.get(expected, 0) + 1
        self.assertGreater(min(seen.values()), 100)

    def test_edges(self):
        for told, wish, text, expected in [
                (EMPTY_TEXT, EMPTY_TEXT, "abab", True), (ALL, LAST, "", False), (LAST, LAST, "ab", True), (LAST, SINGLE, "ab", False),
                (SINGLE, PAIRS, "a", False), (PAIRS, ~SOME_A, "ab", True), (PAIRS, ~SOME_A, "aab", False)]:
            self.assertIs(sure_added(told, wish, text), expected, (told, wish, text))
            self.assertIs(sure_added(text=text, wish=wish, told=told), expected)
        self.assert_raised(NeverHeard, {"value": "bb"}, sure_added, SINGLE, ALL, "bb")

    def test_never_added_by_a_plain_reading(self):
        source = random.Random(6)
        sizes = {}
        for _ in range(250):
            letters = source.choice(["a", "ab", "abc"])
            told = takes_few(source, letters)
            found = never_added(told)
            sizes[len(found)] = True
            self.assert_kept(found.products())
            self.assertEqual(found.least_out(), up(told))
            for text in texts_over(letters, 4):
                comes_in = any([told.takes(part) and is_part_plain(part, text) for part in texts_over(letters, len(text))])
                self.assertIs(text in found, not comes_in)
        self.assertGreater(len(sizes), 3)

    def test_never_added_edges(self):
        for told, expected in [
                (ALL, Sum("ab", [])), (NOTHING, Sum.whole("ab")), (EMPTY_TEXT, Sum("ab", [])), (PAIRS, Sum("ab", [])),
                (SINGLE, Sum("ab", [("b*",)])), (~EMPTY_TEXT, Sum("ab", [()])), (chain("ab", 2), Sum("ab", [("a",), ("b",)]))]:
            self.assertEqual(never_added(told), expected)
            self.assertEqual(never_added(told=told), expected)

    def test_never_added_stops_early(self):
        source = random.Random(7)
        seen = {True: 0, False: 0}
        for _ in range(300):
            told = takes_few(source, "abc")
            many = len(never_added(told))
            with mock.patch.object(Sum, "MOST_PRODUCTS", 2):
                seen[many > 2] += 1
                if many > 2:
                    self.assert_too_many("products", 2, never_added, told)
                else:
                    self.assertEqual(len(never_added(told)), many)
        self.assertGreater(min(seen.values()), 10)


class Wrong(Case):
    def test_texts(self):
        for value in OTHERS + [0, "c", "abc", "A", ("a",), (), [], 1]:
            for asked in HEARD:
                self.assert_raised(InvalidText, {"value": value}, asked, SINGLE, PAIRS, value)
                # Ahead of other letters and of too many places.
                self.assert_raised(InvalidText, {"value": value}, asked, FIVE, counter("abc", 5, []), value)
            for told in [SINGLE, FIVE, NOTHING]:
                self.assert_raised(InvalidText, {"value": value}, can_be_heard, told, value)

    def test_other_letters(self):
        asked_all = HEARD + [lambda told, wish, text: alarms(told, wish), lambda told, wish, text: sure_of_all(told, wish, [text])]
        for asked in asked_all:
            for one in [SINGLE, FIVE, NOTHING]:
                for other in [Machine("a", [[0]], [True]), counter("abc", 5, []), counter("xy", 40, [])]:
                    self.assert_raised(OtherLetters, {"one": "ab", "other": other.letters}, asked, one, other, "")
                    self.assert_raised(OtherLetters, {"one": other.letters, "other": "ab"}, asked, other, one, "")

    def test_5_places(self):
        asked_all = HEARD + [lambda told, wish, text: alarms(told, wish), lambda told, wish, text: sure_of_all(told, wish, [text])]
        for asked in asked_all:
            for one, other in [(FIVE, SINGLE), (SINGLE, FIVE), (FIVE, FIVE), (NOTHING, counter("ab", 40, [])),
                               (counter("ab", 5, []), ALL)]:
                self.assert_too_many("places", 4, asked, one, other, "")
            asked(counter("ab", 4, [0]), counter("ab", 4, [2]), "")
        for machine in [FIVE, counter("ab", 40, [])]:
            self.assert_too_many("places", 4, can_be_heard, machine, "ab")
            self.assert_too_many("places", 4, never_added, machine)
        self.assertIs(can_be_heard(counter("ab", 4, [0]), "ab"), True)
        self.assertEqual(never_added(counter("ab", 4, [1])), Sum("ab", [()]))

    def test_nothing_is_changed(self):
        told, wish = eval(repr(PAIRS)), eval(repr(SOME_A))
        for asked in HEARD:
            self.assertEqual(asked(told, wish, "aa"), asked(told, wish, "aa"))
        alarms(told, wish).append("x")
        self.assertEqual(alarms(told, wish), ["a"])
        self.assertEqual((told, wish), (PAIRS, SOME_A))
        self.assertEqual(down(told), never_added(Machine("ab", [[1, 0], [2, 1], [3, 2], [3, 3]], [False, False, False, True])))
