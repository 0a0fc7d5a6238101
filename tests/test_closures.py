"""What is under machines and sums, and what is sure: examples, edges, plain readings, wrong inputs."""

import random
from unittest import mock

from missedparts import closures
from missedparts.closures import down, first_whole, is_under, sure_parts, under, up
from missedparts.errors import InvalidText, OtherLetters, TooMany
from missedparts.machines import Machine
from missedparts.sums import Sum
from tests.plain import (
    ALL, EMPTY_TEXT, FEW, LAST, NOTHING, OTHERS, PAIRS, SINGLE, Case, chain, counter, is_part_plain, some_machine,
    some_product, texts_over, wholes_plain,
)

EXAMPLES = """
>>> from missedparts.machines import Machine
>>> from missedparts.sums import Sum
>>> single = Machine("ab", [[1, 0], [2, 1], [2, 2]], [False, True, False])
>>> pairs = Machine("ab", [[1, 0], [2, 1], [3, 2], [3, 3]], [True, False, True, False])
>>> from missedparts.closures import down, first_whole, sure_parts, under, up
>>> [down(single), under(pairs, down(single)), up(single), sure_parts(single), first_whole(pairs, Sum.whole("ab"), "ab")]
[Sum('ab', [('b*', 'a', 'b*')]), Sum('ab', [('b*',)]), ['a'], Sum('ab', [('a',)]), 'aab']
"""
WHOLE = Sum.whole("ab")
EMPTY = Sum("ab", [])
SEVEN = counter("ab", 7, [0])
ASKED = [down, up, sure_parts]


def no_c(many, taken):
    """A machine that counts letters round by so many, and takes nothing any more behind a c."""
    rows = [[(at + 1) % many, (at + 1) % many, many] for at in range(many)] + [[many] * 3]
    return Machine("abc", rows, [at in taken for at in range(many)] + [False])


class Examples(Case):
    def test_as_they_stand_in_the_document(self):
        self.assert_examples(EXAMPLES, 6)


class Under(Case):
    def test_by_a_plain_reading(self):
        source = random.Random(1)
        for _ in range(120):
            letters = source.choice(["a", "ab", "abc"])
            machine = some_machine(source, letters, 6)
            some = Sum(letters, [some_product(source, letters, 4) for _ in range(source.randint(0, 3))])
            found = under(machine, some)
            self.assert_kept(found.products())
            for text in texts_over(letters, {1: 9, 2: 4, 3: 3}[len(letters)]):
                whole = wholes_plain(machine, some.products(), text)
                self.assertIs(text in found, whole is not None, (machine, some, text))
                self.assertIs(is_under(machine, some, text), whole is not None)
                self.assertEqual(first_whole(machine, some, text), whole)
            self.assertEqual(down(machine), under(machine, Sum.whole(letters)))

    def test_edges(self):
        for machine, some, expected in [
                (NOTHING, WHOLE, EMPTY), (NOTHING, EMPTY, EMPTY), (ALL, EMPTY, EMPTY), (ALL, WHOLE, WHOLE),
                (ALL, FEW, FEW), (EMPTY_TEXT, WHOLE, Sum("ab", [()])), (EMPTY_TEXT, EMPTY, EMPTY), (LAST, WHOLE, WHOLE),
                (LAST, FEW, FEW), (SINGLE, Sum("ab", [("b*",)]), EMPTY), (PAIRS, Sum("ab", [("ab*",)]), Sum("ab", [
                    ("b*", "a", "b*", "a", "b*")])), (LAST, Sum("ab", [("b", "a")]), Sum("ab", [("b",)]))]:
            self.assertEqual(under(machine, some), expected)
            self.assertEqual(under(some=some, machine=machine), expected)
        self.assertEqual(down(machine=NOTHING), EMPTY)

    def test_first_whole_edges(self):
        self.assertEqual(first_whole(LAST, WHOLE, ""), "b")
        self.assertEqual(first_whole(LAST, WHOLE, "ba"), "bab")
        self.assertEqual(first_whole(LAST, Sum("ab", [("b", "a")]), "a"), None)
        self.assertEqual(first_whole(text="b", some=FEW, machine=SINGLE), "ab")
        self.assertEqual(first_whole(NOTHING, WHOLE, ""), None)
        self.assertEqual(first_whole(ALL, EMPTY, ""), None)
        # Of two products the one may have the shorter whole, or the lesser one.
        self.assertEqual(first_whole(LAST, Sum("ab", [("a", "a", "b"), ("b", "a", "b")]), "a"), "ab")
        self.assertEqual(first_whole(counter("ab", 3, [0]), Sum("ab", [("b", "b", "a"), ("a*", "b", "a")]), "a"), "aaa")
        self.assertEqual(first_whole(counter("ab", 3, [0]), Sum("ab", [("b", "b", "a"), ("b", "a", "b")]), "a"), "bab")
        self.assertIs(is_under(text="ab", machine=PAIRS, some=WHOLE), True)
        self.assertIs(is_under(PAIRS, FEW, "ab"), False)

    def test_long_texts(self):
        self.assertEqual(first_whole(LAST, WHOLE, "a" * 8999), "a" * 8999 + "b")
        self.assertIs(is_under(LAST, WHOLE, "ab" * 4500), True)
        self.assertIs(is_under(PAIRS, WHOLE, "b" * 9000), True)
        self.assertIs(is_under(PAIRS, WHOLE, "a" * 9000), False)
        self.assertEqual(first_whole(counter("ab", 6, [5]), WHOLE, "ba" * 4500), "a" * 5 + "ba" * 4500)
        self.assertIsNone(first_whole(SINGLE, WHOLE, "a" * 9000))

    def test_60_products(self):
        words = [text for text in texts_over("abc", 4) if len(text) == 4]
        for some in [Sum.of("abc", words[:60]), Sum.of("abc", words[21:])]:
            found = under(chain("abc", 4), some)
            self.assertEqual(found, some)
            self.assertEqual(len(found), 60)
        self.assert_too_many("products", 60, down, chain("abc", 4))
        self.assert_too_many("products", 60, under, chain("abc", 4), Sum.whole("abc"))
        self.assertEqual(len(down(chain("abc", 3))), 27)
        no_c_last = Machine("abc", [[1] * 3, [2] * 3, [3] * 3, [4, 4, 5], [5] * 3, [5] * 3], [False] * 4 + [True, False])
        self.assertEqual(down(no_c_last), Sum.of("abc", [text for text in words if text[3] != "c"]))

    def test_more_products_under_one_of_many(self):
        pieces = ("c",) + tuple("abababababa")
        self.assert_too_many("products", 60, under, no_c(5, [2]), Sum("abc", [pieces]))
        for taken in range(5):
            self.assertEqual(under(no_c(5, [taken]), Sum("abc", [pieces, ("ab*",)])), Sum("abc", [("ab*",)]))

    def test_one_by_one_and_all_together(self):
        source = random.Random(5)
        for _ in range(80):
            letters = source.choice(["ab", "abc"])
            machine = some_machine(source, letters, 6)
            some = Sum(letters, [some_product(source, letters, 6) for _ in range(source.randint(2, 5))])
            found = under(machine, some)
            for alone in [0, 1, 3]:
                with mock.patch.object(closures, "MOST_ALONE", alone):
                    self.assertEqual(under(machine, some), found)
        words = ["".join([source.choice("ab") for _ in range(30)]) for _ in range(5)]
        self.assert_too_many("products", 60, under, counter("ab", 6, [3]), Sum.of("ab", words))

    def test_long_products(self):
        source = random.Random(2)
        text = "".join([source.choice("ab") for _ in range(60)])
        for taken in [1, 2, 3, 4]:
            self.assert_too_many("products", 60, under, counter("ab", 6, [taken]), Sum.of("ab", [text]))
        self.assertEqual(under(counter("ab", 6, [0]), Sum.of("ab", [text])), Sum.of("ab", [text]))
        shorter = Sum.of("ab", ["ab" * 29 + "a"])
        self.assertEqual(under(counter("ab", 6, [5]), shorter), shorter)

    def test_wrong_texts(self):
        for asked in [is_under, first_whole]:
            for value in OTHERS + [0, 1, "c", "abc", ("a",), ()]:
                self.assert_raised(InvalidText, {"value": value}, asked, SINGLE, FEW, value)
                # Ahead of other letters and of too many places.
                self.assert_raised(InvalidText, {"value": value}, asked, SEVEN, Sum.whole("abc"), value)
            self.assert_raised(InvalidText, {"value": "c"}, asked, SINGLE, Sum.whole("abc"), "c")

    def test_other_letters(self):
        for machine in [SINGLE, SEVEN]:
            for asked in [under, lambda *passed: is_under(*passed, "a"), lambda *passed: first_whole(*passed, "")]:
                self.assert_raised(OtherLetters, {"one": "ab", "other": "abc"}, asked, machine, Sum.whole("abc"))
                self.assert_raised(OtherLetters, {"one": "ab", "other": "a"}, asked, machine, Sum("a", []))

    def test_7_places(self):
        for asked in [lambda machine: under(machine, WHOLE), lambda machine: is_under(machine, WHOLE, "a"),
                      lambda machine: first_whole(machine, WHOLE, "a")] + ASKED:
            for machine in [SEVEN, counter("ab", 40, [1])]:
                self.assert_too_many("places", 6, asked, machine)
            self.assertIsNotNone(asked(counter("ab", 6, [0])))
        for machine in [counter("abc", 7, range(7)), chain("abc", 5)]:
            for asked in ASKED:
                self.assert_too_many("places", 6, asked, machine)


class Up(Case):
    def test_by_a_plain_reading(self):
        source = random.Random(3)
        for _ in range(250):
            letters = source.choice(["a", "ab", "abc"])
            machine = some_machine(source, letters, 6)
            least = []
            for text in texts_over(letters, 6):
                if machine.takes(text) and not any(is_part_plain(part, text) for part in least):
                    least.append(text)
            self.assertEqual(up(machine), least)

    def test_edges(self):
        self.assertEqual(up(NOTHING), [])
        self.assertEqual(up(machine=ALL), [""])
        self.assertEqual(up(LAST), ["b"])
        self.assertEqual(up(Machine("ab", [[1, 2], [1, 3], [3, 2], [3, 3]], [False, False, False, True])), ["ab", "ba"])
        self.assertEqual(up(chain("ab", 2)), ["aa", "ab", "ba", "bb"])

    def test_200_texts(self):
        # At least five letters, and at least four, or five of which the last one is no c.
        five = Machine("abc", [[at + 1] * 3 for at in range(5)] + [[5] * 3], [False] * 5 + [True])
        self.assert_too_many("texts", 200, up, five)
        four = Machine("abc", [[at + 1] * 3 for at in range(4)] + [[5, 5, 4], [5] * 3], [False] * 5 + [True])
        self.assertEqual(len(up(four)), 162)
        with mock.patch.object(closures, "MOST_TAKEN", 162):
            self.assertEqual(len(up(four)), 162)
        with mock.patch.object(closures, "MOST_TAKEN", 161):
            self.assert_too_many("texts", 161, up, four)


class SureParts(Case):
    def test_by_a_plain_reading(self):
        source = random.Random(4)
        for _ in range(250):
            letters = source.choice(["a", "ab", "abc"])
            machine = some_machine(source, letters, 6)
            found = sure_parts(machine)
            self.assert_kept(found.products())
            least = up(machine)
            for text in texts_over(letters, 6 if len(letters) < 3 else 4):
                self.assertIs(text in found, all(is_part_plain(text, whole) for whole in least), (machine, text))

    def test_edges(self):
        self.assertEqual(sure_parts(NOTHING), WHOLE)
        self.assertEqual(sure_parts(machine=ALL), Sum("ab", [()]))
        self.assertEqual(sure_parts(LAST), Sum("ab", [("b",)]))
        self.assertEqual(sure_parts(chain("ab", 2)), Sum("ab", [()]))
        self.assertEqual(sure_parts(chain("a", 4)), Sum("a", [("a",) * 4]))
        # Nothing is taken, though by more than one place.
        self.assertEqual(sure_parts(counter("abc", 6, [])), Sum.whole("abc"))

    def test_more_products(self):
        # Texts of so few letters have no more parts than are let; so a lower limit shows that it is asked for.
        aba = Machine("ab", [[1, 5], [5, 2], [3, 5], [5, 4], [5, 5], [5, 5]], [False] * 4 + [True, False])
        self.assertEqual(sure_parts(aba), Sum.of("ab", ["abab"]))
        abba = Machine("ab", [[1, 1], [2, 0], [2, 3], [3, 3]], [False, False, False, True])
        self.assertEqual(up(abba), ["aab", "bab"])
        self.assertEqual(sure_parts(abba), Sum.of("ab", ["ab"]))
        with mock.patch.object(Sum, "MOST_PRODUCTS", 0):
            self.assertRaises(TooMany, sure_parts, aba)


class Calls(Case):
    def test_nothing_is_changed(self):
        machine, some = eval(repr(PAIRS)), eval(repr(FEW))
        for asked in [lambda: under(machine, some), lambda: down(machine), lambda: up(machine),
                      lambda: sure_parts(machine), lambda: first_whole(machine, some, "b")]:
            self.assertEqual(asked(), asked())
        self.assertEqual((machine, some), (PAIRS, FEW))
        up(machine).append("a")
        self.assertEqual(up(machine), [""])
