"""Machines told by parts, and spoilers: examples, edges, plain readings, wrong inputs."""

import random

from missedparts.byparts import is_by_parts, is_spoiler, spoiler
from missedparts.machines import Machine
from missedparts.shared import shared
from tests.plain import (
    ALL, EMPTY_TEXT, FEW, LAST, NOTHING, OTHERS, PAIRS, SINGLE, Case, chain, counter, some_machine, texts_over,
)

EXAMPLES = """
>>> from missedparts.machines import Machine
>>> single = Machine("ab", [[1, 0], [2, 1], [2, 2]], [False, True, False])
>>> last = Machine("ab", [[0, 1], [0, 1]], [False, True])
>>> from missedparts.byparts import is_by_parts, is_spoiler
>>> [is_by_parts(single), is_by_parts(last), is_spoiler(last, ("round", "", "b", "a", ""))]
[True, False, True]
"""
# It takes the texts over "abc" of which the first letter that is no c is an a: so no place comes again.
FIRST = Machine("abc", [[1, 2, 0], [1, 1, 1], [2, 2, 2]], [False, True, False])
# As SINGLE, but behind an a two alike places lead to one another.
DOUBLED = Machine("ab", [[1, 0], [3, 2], [3, 1], [3, 3]], [False, True, True, False])
# Three unlike places at which a and b stay are come to by texts of a and b.
THREE = Machine(
    "abc", [[1, 2, 2], [3, 4, 2], [2, 2, 2], [3, 3, 2], [4, 4, 3]], [False, False, False, True, False])
ASKED = [is_by_parts, spoiler, lambda machine: is_spoiler(machine, None)]


def signs_of(machine):
    """For each place which of the short texts lead from there to places that take: alike places have the same ones."""
    texts = texts_over(machine.letters, len(machine))
    return [[machine.kinds()[machine.goes(place, text)] for text in texts] for place in range(len(machine))]


def is_spoiler_plain(machine, value):
    """Straight from the definition, for tuples of texts over the letters of a right length."""
    signs = signs_of(machine)

    def are_alike(one, other):
        return signs[machine.goes(0, one)] == signs[machine.goes(0, other)]

    if value[0] == "round":
        _, to, on, back, apart = value
        return (are_alike(to, to + on + back) and not are_alike(to, to + on)
                and machine.takes(to + apart) != machine.takes(to + on + apart))
    _, to, stay, left, right, apart = value
    if not stay or list(stay) != sorted(set(stay)) or not set(left + right) <= set(stay):
        return False
    stays = all(are_alike(to + side, to + side + letter) for side in (left, right) for letter in stay)
    return stays and machine.takes(to + left + apart) != machine.takes(to + right + apart)


class Examples(Case):
    def test_as_they_stand_in_the_document(self):
        self.assert_examples(EXAMPLES, 5)


class Spoilers(Case):
    def test_by_a_plain_reading(self):
        source = random.Random(1)
        shapes = {"round": 0, "fork": 0, None: 0}
        while min(shapes.values()) < 40:
            letters = source.choice(["a", "ab", "abc"])
            machine = some_machine(source, letters, 5)
            found = spoiler(machine)
            self.assertIs(is_by_parts(machine), found is None)
            self.assertEqual(spoiler(~machine) is None, found is None)
            if len(machine) <= 4:
                self.assertEqual(shared(machine, ~machine) is None, found is None, machine)
            shapes[found and found[0]] += 1
            if found is not None:
                self.assertIs(type(found), tuple)
                self.assertIs(is_spoiler(machine, found), True)
                self.assertTrue(is_spoiler_plain(machine, found), (machine, found))

    def test_any_tuples_by_a_plain_reading(self):
        source = random.Random(2)
        told = {("round", True): 0, ("round", False): 0, ("fork", True): 0, ("fork", False): 0}
        while min(told.values()) < 20:
            letters = source.choice(["ab", "abc"])
            machine = some_machine(source, letters, 4)
            if (spoiler(machine) or [""])[0] != "fork" and source.random() < 0.9:
                continue
            texts = texts_over(letters, 2)
            for _ in range(40):
                some = [source.choice(texts) for _ in range(4)]
                stay = source.choice([letters, letters[:2], letters[1:], letters[::2], "ba", "", letters[0]])
                value = ("round", *some) if source.random() < 0.2 else ("fork", some[0], stay, *some[1:])
                expected = is_spoiler_plain(machine, value)
                self.assertIs(is_spoiler(machine, value), expected, (machine, value))
                told[value[0], expected] += 1
                if expected:
                    self.assertIs(is_by_parts(machine), False)

    def test_edges(self):
        for machine in [NOTHING, ALL, EMPTY_TEXT, SINGLE, PAIRS, DOUBLED, chain("abc", 3), counter("abc", 5, [])]:
            self.assertIs(is_by_parts(machine=machine), True)
            self.assertIsNone(spoiler(machine=machine))
        for machine in [LAST, counter("a", 2, [0]), counter("ab", 5, [1]), FIRST, THREE]:
            self.assertIs(is_by_parts(machine), False)
            self.assertIs(is_spoiler(value=spoiler(machine), machine=machine), True)
        self.assertEqual(spoiler(LAST)[0], "round")
        self.assertEqual(spoiler(FIRST)[0], "fork")

    def test_spoilers(self):
        for machine, value, expected in [
                (LAST, ("round", "", "b", "a", ""), True), (LAST, ("round", "b", "a", "b", ""), True),
                (LAST, ("round", "", "b", "a", "a"), False), (LAST, ("round", "", "b", "b", ""), False),
                (LAST, ("round", "", "a", "b", ""), False), (LAST, ("round", "", "", "", ""), False),
                (LAST, ("round", "ab" * 2000, "b" * 9, "a" * 9, ""), False), (LAST, ("round", "ab" * 2000, "a" * 9, "b", ""), True),
                (SINGLE, ("round", "", "a", "a", "a"), False), (SINGLE, ("round", "", "a", "", ""), False),
                (DOUBLED, ("round", "a", "b", "b", ""), False), (counter("a", 2, [0]), ("round", "", "a", "a", ""), True),
                (FIRST, ("fork", "", "ab", "a", "b", ""), True), (FIRST, ("fork", "c", "abc", "ca", "bac", "abc"), True),
                (FIRST, ("fork", "", "ab", "a", "ab", ""), False), (FIRST, ("fork", "a", "ab", "a", "b", ""), False),
                (FIRST, ("fork", "", "a", "a", "b", ""), False), (FIRST, ("fork", "", "ba", "a", "b", ""), False),
                (FIRST, ("fork", "", "aab", "a", "b", ""), False), (FIRST, ("fork", "", "", "", "", ""), False),
                (FIRST, ("fork", "", "ac", "a", "b", ""), False), (FIRST, ("fork", "", "abc", "", "b", ""), False),
                (FIRST, ("fork", "", "ab", "b", "a", "c"), True), (LAST, ("fork", "", "ab", "a", "b", ""), False),
                (LAST, ("fork", "", "a", "a", "a", ""), False), (NOTHING, ("fork", "", "ab", "a", "b", ""), False)]:
            self.assertIs(is_spoiler(machine, value), expected, (machine, value))

    def test_any_value(self):
        right = ("round", "", "b", "a", "")
        for value in OTHERS + [0, "", (), ("round",), "round", list(right), right[:4], right + ("",), ("fork", *right[1:]),
                               ("Round", *right[1:]), ("", *right[1:]), (None, *right[1:]), (["round"], *right[1:]), right[1:],
                               ("round", "c", "b", "a", ""), ("round", "", "b", "a", None), ("round", "", "b", "a", ()),
                               ("round", "", ["b"], "a", ""), ("round", "", "b", True, ""), ("round", "", "b", "a", FEW),
                               ("round", "", "bc", "a", ""), {0: "round"}, (right,), (b"round", "", "b", "a", "")]:
            self.assertIs(is_spoiler(LAST, value), False, value)
        right = ("fork", "", "ab", "a", "b", "")
        for value in OTHERS + [list(right), right[:5], right + ("",), ("round", *right[1:]), ("fork", "", "ab*", "a", "b", ""),
                               ("fork", "", ("a", "b"), "a", "b", ""), ("fork", "", ["a", "b"], "a", "b", ""),
                               ("fork", "", "abd", "a", "b", ""), ("fork", None, "ab", "a", "b", ""),
                               ("fork", "", "ab", "a", "b", 0), ("fork", "", None, "a", "b", "")]:
            self.assertIs(is_spoiler(FIRST, value), False, value)


class Wrong(Case):
    def test_6_places(self):
        for asked in ASKED:
            for machine in [counter("ab", 6, [0]), counter("abc", 6, []), counter("a", 40, [0]), chain("ab", 4)]:
                self.assert_too_many("places", 5, asked, machine)
            asked(counter("ab", 5, [0]))
        for value in [None, (), "ab", ("round", "", "b", "a", "")]:
            self.assert_too_many("places", 5, is_spoiler, counter("ab", 6, [0]), value)

    def test_nothing_is_changed(self):
        machine, value = eval(repr(LAST)), ["round", "", "b", "a", ""]
        self.assertEqual(spoiler(machine), spoiler(machine))
        self.assertIs(is_spoiler(machine, value), False)
        self.assertEqual((machine, value), (LAST, ["round", "", "b", "a", ""]))
