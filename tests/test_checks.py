"""Tests of texts: examples, edges, plain readings, wrong inputs."""

import random
from unittest import mock

from missedparts import checks
from missedparts.checks import (
    does_part, fits, is_parted_by, is_test, letters_of, test_by_letters as made_by_letters, test_machine as made_machine,
    test_of as made_of,
)
from missedparts.errors import InvalidLetters, InvalidLevels, InvalidTest, InvalidText, OtherLetters, TooMany
from missedparts.letters import least_number
from missedparts.levels import levels
from missedparts.machines import Machine, is_same, least_of_both
from missedparts.sums import Sum
from tests.plain import (
    ALL, EMPTY_TEXT, FEW, LAST, NOTHING, OTHERS, PAIRS, SINGLE, Case, chain, counter, is_part_plain, some_machine, texts_over,
)
from tests.test_levels import HIGH
from tests.test_sums import OUT_200, OUT_201

EXAMPLES = """
>>> from missedparts.machines import Machine, is_same, least_of_both
>>> single = Machine("ab", [[1, 0], [2, 1], [2, 2]], [False, True, False])
>>> pairs = Machine("ab", [[1, 0], [2, 1], [3, 2], [3, 3]], [True, False, True, False])
>>> from missedparts.checks import does_part, fits, letters_of, test_machine
>>> once = ("all", (("part", "a"), ("not", ("part", "aa"))))
>>> [does_part(single, pairs, once), letters_of(once), fits(once, "bba")]
[True, 2, True]
>>> is_same(test_machine("ab", once), single)
True
"""
ONCE = ("all", (("part", "a"), ("not", ("part", "aa"))))
ALWAYS, NEVER = ("all", ()), ("any", ())
NO_TESTS = OTHERS + [
    0, 1, "", "part", "a", (), [], ("part",), ("part", "A"), ("part", "a-"), ("part", None), ("part", 0), ("part", True),
    ("part", ["a"]), ("part", ("a",)), ("part", b"a"), ("part", "a", "b"), ["part", "a"], ("parts", "a"), ("Part", "a"),
    (b"part", "a"), (("part",), "a"), (["part"], "a"), (None, "a"), (True, "a"), (0, "a"), ("part", ("part", "a")), ("not",),
    ("not", "a"), ("not", ()), ("not", ["part", "a"]), ("not", (("part", "a"),)), ("not", ("part", "a"), ("part", "b")),
    ("not", ("not", ("not", ("part", "A")))), ("not", None), ("not", True), ("all",), ("any",), ("all", ("part", "a")),
    ("all", [("part", "a")]), ("any", []), ("all", "a"), ("all", ""), ("any", None), ("any", {}), ("all", {"part": "a"}),
    ("all", (("part", "a"), "b")), ("all", (("part", "a"), ["part", "b"])), ("any", (("part", "a"), ("part", "B"))),
    ("any", (("all", (("not", ("part", 1)),)),)), ("all", (), ()), ("", ()), ("none", ()), {"part": "a"}, FEW, (FEW, FEW),
]


def some_test(source, texts, deep):
    """A test with some of these texts."""
    kind = source.random()
    if deep == 0 or kind < 0.2:
        return "part", source.choice(texts)
    if kind < 0.45:
        return "not", some_test(source, texts, deep - 1)
    many = source.choice([0, 1, 2, 2, 3, 4])
    return source.choice(["all", "any"]), tuple(some_test(source, texts, deep - 1) for _ in range(many))


def fits_plain(test, text):
    word, about = test
    if word == "part":
        return is_part_plain(about, text)
    if word == "not":
        return not fits_plain(about, text)
    return (all if word == "all" else any)([fits_plain(each, text) for each in about])


def texts_plain(test):
    word, about = test
    if word == "part":
        return {about}
    return texts_plain(about) if word == "not" else {text for each in about for text in texts_plain(each)}


def any_of(texts):
    return "any", tuple(("part", text) for text in texts)


def just_these(texts):
    """The test that fits just if all of these texts are parts, or none is."""
    return "any", (("all", tuple(("part", text) for text in texts)), ("not", any_of(texts)))


class Examples(Case):
    def test_as_they_stand_in_the_document(self):
        self.assert_examples(EXAMPLES, 7)


class IsTest(Case):
    def test_right_ones(self):
        deep = ("part", "a")
        for _ in range(9):
            deep = ("not", deep)
        for value in [("part", ""), ("part", "a"), ("part", "xyzzy"), ("part", "a" * 9000), ("not", ("part", "")), ALWAYS, NEVER,
                      ("not", NEVER), ("all", (NEVER,)), ("any", (ALWAYS, NEVER)), ONCE, deep, ("all", (ONCE,) * 1000),
                      ("any", (("part", "a"), ("part", "a"), ("all", (("not", ("any", ())), ("part", "q")))))]:
            self.assertIs(is_test(value), True, value)
            self.assertIs(is_test(value=value), True)

    def test_any_value(self):
        for value in NO_TESTS:
            self.assertIs(is_test(value), False, value)


class Fits(Case):
    def test_by_a_plain_reading(self):
        source = random.Random(1)
        texts = texts_over("abc", 3) + ["z", "ax"]
        wholes = texts_over("abc", 4) + ["z", "xaxaz"]
        both = {True: 0, False: 0}
        for _ in range(400):
            test = some_test(source, texts, 4)
            for text in source.sample(wholes, 20):
                both[fits(test, text)] += 1
                self.assertIs(fits(test, text), fits_plain(test, text), (test, text))
            self.assertEqual(letters_of(test), max([len(text) for text in texts_plain(test)], default=0))
        self.assertGreater(min(both.values()), 1000)

    def test_edges(self):
        for test, text, expected in [
                (ALWAYS, "", True), (NEVER, "", False), (("not", NEVER), "q", True), (("part", ""), "", True),
                (("part", "a"), "", False), (("part", "a"), "a", True), (("part", "z"), "aza", True), (("part", "zz"), "aza", False),
                (ONCE, "bba", True), (ONCE, "", False), (ONCE, "aa", False), (("all", (ALWAYS, NEVER)), "", False),
                (("any", (ALWAYS, NEVER)), "", True), (("part", "ab" * 4500), "ab" * 4500, True),
                (("part", "ab" * 4500), "ba" * 4500, False), (("not", ("part", "a" * 9000)), "a" * 8999, True)]:
            self.assertIs(fits(test, text), expected, (test, text))
            self.assertIs(fits(text=text, test=test), expected)
        for test, expected in [(ALWAYS, 0), (NEVER, 0), (("part", ""), 0), (ONCE, 2), (("not", ("part", "xyz")), 3),
                               (("all", (("part", "abc"), ("part", "q"))), 3), (("part", "a" * 9000), 9000)]:
            self.assertEqual(letters_of(test), expected)
            self.assertEqual(letters_of(test=test), expected)

    def test_wrong_ones(self):
        for value in NO_TESTS:
            self.assert_raised(InvalidTest, {"value": value}, fits, value, "a")
            self.assert_raised(InvalidTest, {"value": value}, fits, value, None)
            self.assert_raised(InvalidTest, {"value": value}, letters_of, value)
        for value in OTHERS + [0, (), ("a",), "B"]:
            for test in [ONCE, ALWAYS, NEVER, ("not", ALWAYS), ("part", "")]:
                self.assert_raised(InvalidText, {"value": value}, fits, test, value)


class TestMachine(Case):
    def test_by_a_plain_reading(self):
        source = random.Random(2)
        sizes = {}
        for _ in range(250):
            letters = source.choice(["a", "ab", "abc", "bc"])
            texts = texts_over(letters, 3) + ["z", "ad"]
            test = some_test(source, source.sample(texts, min(len(texts), 6)), 3)
            try:
                machine = made_machine(letters, test)
            except TooMany as error:
                self.assertEqual((error.what, error.limit), ("places", 40))
                continue
            sizes[len(machine)] = True
            self.assertEqual(machine, machine.least())
            for text in texts_over(letters, {1: 12, 2: 7, 3: 5}[len(letters)]):
                self.assertIs(machine.takes(text), fits_plain(test, text), (test, text))
        self.assertGreater(len(sizes), 8)

    def test_edges(self):
        for letters, test, expected in [
                ("ab", ALWAYS, ALL), ("ab", NEVER, NOTHING), ("ab", ("part", ""), ALL), ("ab", ("part", "z"), NOTHING),
                ("ab", ("not", ("part", "za")), ALL), ("ab", ("not", any_of("ab")), EMPTY_TEXT), ("ab", ONCE, SINGLE),
                ("ab", ("any", (("part", "a"), ("not", ("part", "a")))), ALL),
                ("ab", ("all", (("part", "a"), ("not", ("part", "a")))), NOTHING),
                ("xyz", ("part", "y"), Machine("xyz", [[0, 1, 0], [1, 1, 1]], [False, True]))]:
            self.assertEqual(made_machine(letters, test), expected.least())
            self.assertEqual(made_machine(test=test, letters=letters), expected.least())

    def test_40_places(self):
        # A place for each text that is not yet all of it: 6 + 1, and so on by pairs and threes of texts.
        self.assertEqual(len(made_machine("ab", ("part", "aaaaaa"))), 7)
        for test, many in [(just_these(["aaaaaa", "bbbbb"]), 42), (just_these(["aaaaaa", "bbbb"]), 35),
                           (just_these(["a", "bbb", "cccc"]), 40), (just_these(["a", "bb", "cccccc"]), 42),
                           (("any", (just_these(["aaaaaa", "bbbbb"]), ALWAYS)), 1),
                           (("any", (just_these(["aaaaaa", "bbbbb"]), ("not", just_these(["aaaaaa", "bbbbb"])))), 1),
                           (("all", (just_these(["aaaaaa", "bbbbb"]), ("part", "aaaaaa"))), 42)]:
            if many <= 40:
                self.assertEqual(len(made_machine("abc", test)), many)
            else:
                self.assert_too_many("places", 40, made_machine, "abc", test)

    def test_6_letters_and_20_texts(self):
        six, seven = ("part", "abcabc"), ("not", ("part", "zzzzzzz"))
        self.assertEqual(len(made_machine("abc", six)), 7)
        self.assert_too_many("letters", 6, made_machine, "abc", seven)
        texts = texts_over("abc", 3)
        self.assertTrue(is_same(made_machine("abc", any_of(texts[1:21])), ~made_machine("abc", ("not", any_of("abc")))))
        twice = ("all", (any_of(texts[13:33]), any_of(texts[13:33])))
        self.assertEqual(made_machine("abc", twice).first_taken(), texts[13])
        for many in [21, 27]:
            self.assert_too_many("texts", 20, made_machine, "abc", any_of(texts[13:13 + many]))
        self.assert_too_many("letters", 6, made_machine, "abc", ("all", (any_of(texts[:21]), seven)))
        self.assert_too_many("texts", 20, made_machine, "a", any_of(texts[:21]))

    def test_wrong_ones(self):
        for value in OTHERS + [0, "", "ba", "aa", "abcd", ("a", "b")]:
            self.assert_raised(InvalidLetters, {"value": value}, made_machine, value, ONCE)
            self.assert_raised(InvalidLetters, {"value": value}, made_machine, value, None)
        for value in NO_TESTS:
            self.assert_raised(InvalidTest, {"value": value}, made_machine, "ab", value)


class DoesPart(Case):
    def test_by_a_plain_reading(self):
        source = random.Random(3)
        both = {True: 0, False: 0}
        for _ in range(3000):
            letters = source.choice(["a", "ab", "abc"])
            texts = source.sample(texts_over(letters, 3) + ["z"], 4)
            test = some_test(source, texts, 3)
            one, other = some_machine(source, letters, 4), some_machine(source, letters, 4)
            # However few states are looked at as they come, and whatever they are compared with, the answer is the same.
            with mock.patch.multiple(checks, MOST_TRIED=source.choice([0, 1, 2, 5, 20]), MOST_COMPARED=source.choice([1, 16])):
                found = does_part(one, other, test)
            self.assertIs(does_part(one, other, test), found)
            both[found] += 1
            try:
                fit = made_machine(letters, test)
            except TooMany:
                continue
            apart = least_of_both(one, ~fit), least_of_both(other, fit)
            self.assertIs(found, apart == (None, None), (one, other, test))
        self.assertGreater(min(both.values()), 100)

    def test_more_texts(self):
        source = random.Random(8)
        both = {True: 0, False: 0}
        for _ in range(300):
            letters = source.choice(["ab", "abc"])
            test = some_test(source, source.sample(texts_over(letters, 5)[1:], 8), 4)
            one, other = some_machine(source, letters, 12), some_machine(source, letters, 12)
            found = does_part(one, other, test)
            both[found] += 1
            with mock.patch.object(checks, "MOST_TRIED", 0):
                self.assertIs(does_part(one, other, test), found)
            if found:
                for text in texts_over(letters, 5):
                    self.assertFalse(one.takes(text) and not fits_plain(test, text) or other.takes(text) and fits_plain(test, text))
        self.assertGreater(min(both.values()), 5)

    def test_machines_of_tests(self):
        source = random.Random(4)
        for _ in range(100):
            letters = source.choice(["ab", "abc"])
            test = some_test(source, source.sample(texts_over(letters, 4), 5), 3)
            try:
                machine = made_machine(letters, test)
            except TooMany:
                continue
            self.assertIs(does_part(machine, ~machine, test), True)
            self.assertIs(does_part(~machine, machine, ("not", test)), True)
            self.assertIs(does_part(~machine, machine, test), False)

    def test_edges(self):
        no_a = ("not", ("part", "a"))
        for one, other, test, expected in [
                (SINGLE, PAIRS, ONCE, True), (PAIRS, SINGLE, ONCE, False), (PAIRS, SINGLE, ("not", ONCE), True),
                (NOTHING, ALL, NEVER, True), (ALL, NOTHING, ALWAYS, True), (ALL, NOTHING, NEVER, False), (ALL, ALL, ALWAYS, False),
                (NOTHING, NOTHING, ALWAYS, True), (NOTHING, NOTHING, NEVER, True), (NOTHING, EMPTY_TEXT, ALWAYS, False),
                (EMPTY_TEXT, LAST, no_a, False), (EMPTY_TEXT, SINGLE, no_a, True), (EMPTY_TEXT, ~EMPTY_TEXT, ("not", any_of("ab")), True),
                (SINGLE, NOTHING, ("part", "z"), False), (SINGLE, NOTHING, ("not", ("part", "z")), True), (LAST, ~LAST, ONCE, False)]:
            self.assertIs(does_part(one, other, test), expected, (one, other, test))
            self.assertIs(does_part(test=test, other=other, one=one), expected)

    def test_40_places(self):
        long, longer = chain("ab", 38), chain("ab", 37)
        self.assertEqual(len(long), 40)
        for test in [("part", "aaaaaa"), any_of(texts_over("ab", 3)), just_these(["aaaaaa", "bbbbbb"])]:
            self.assertIs(does_part(long, longer, test), False)
        self.assertIs(does_part(long, NOTHING, any_of(["a", "b"])), True)
        for taken, others, test, expected in [
                ([6], [], ("part", "aaaaaa"), True), ([5], [], ("part", "aaaaaa"), False), ([39], [5], ("part", "aaaaaa"), False),
                ([39], [], just_these(["a", "aaaaaa"]), True), (range(40), [], just_these(["", "a"]), False)]:
            self.assertIs(does_part(counter("a", 40, taken), counter("a", 40, others), test), expected)

    def test_20_texts_of_6_letters(self):
        source = random.Random(5)
        texts = ["".join([source.choice("abc") for _ in range(6)]) for _ in range(20)]
        nothing = counter("abc", 1, [])
        self.assertIs(does_part(counter("abc", 40, [39]), nothing, any_of(texts)), False)
        self.assertIs(does_part(chain("abc", 5), chain("abc", 38), ("not", any_of(texts))), False)
        self.assertIs(does_part(chain("abc", 5), nothing, ("not", any_of(texts))), True)
        texts = ["".join([source.choice("ab") for _ in range(6)]) for _ in range(20)]
        some = ("any", tuple(("all", (("part", one), ("not", ("part", other)))) for one, other in zip(texts, texts[1:])))
        self.assertIs(does_part(counter("ab", 40, range(40)), NOTHING, ("any", (some, ("not", some)))), True)
        self.assertIs(does_part(counter("ab", 40, range(40)), NOTHING, some), False)

    def test_too_many(self):
        letters, texts = ("not", ("part", "zzzzzzz")), any_of(texts_over("abc", 3)[:21])
        self.assert_too_many("letters", 6, does_part, SINGLE, PAIRS, letters)
        self.assert_too_many("texts", 20, does_part, SINGLE, PAIRS, texts)
        self.assert_too_many("letters", 6, does_part, SINGLE, PAIRS, ("all", (texts, letters)))
        self.assertIs(does_part(SINGLE, PAIRS, ("any", (any_of(texts_over("abc", 3)[20:39]), NEVER, ("part", "")))), False)

    def test_wrong_ones(self):
        for value in NO_TESTS:
            self.assert_raised(InvalidTest, {"value": value}, does_part, SINGLE, PAIRS, value)
            # Ahead of other letters.
            self.assert_raised(InvalidTest, {"value": value}, does_part, SINGLE, counter("abc", 3, []), value)
        for test in [ONCE, ("part", "a" * 7), any_of(texts_over("abc", 3))]:
            for other in [Machine("a", [[0]], [True]), counter("abc", 40, []), counter("xy", 3, [])]:
                self.assert_raised(OtherLetters, {"one": "ab", "other": other.letters}, does_part, SINGLE, other, test)
                self.assert_raised(OtherLetters, {"one": other.letters, "other": "ab"}, does_part, other, SINGLE, test)


class TestOf(Case):
    def assert_told(self, sums, texts):
        test = made_of(sums)
        self.assertIs(is_test(test), True)
        for text in texts:
            self.assertIs(fits(test, text), sum([text in some for some in sums]) % 2 == 1, (sums, text))

    def test_some_levels(self):
        source = random.Random(6)
        for one, other, many in HIGH:
            self.assert_told(levels(one, other), texts_over(one.letters, 5))
        for _ in range(300):
            letters = source.choice(["a", "ab", "abc"])
            one, other = some_machine(source, letters, 4), some_machine(source, letters, 4)
            found = levels(one, other)
            if found:
                self.assert_told(found, texts_over(letters, {1: 9, 2: 6, 3: 4}[len(letters)]))
                if letters_of(made_of(found)) <= 6:
                    self.assertIs(is_parted_by(one, other, made_of(found)), True)

    def test_edges(self):
        whole, empty, textless = Sum.whole("ab"), Sum("ab", []), Sum("ab", [()])
        for sums in [[whole], [empty], [textless], [FEW], [whole, FEW], [whole, whole], [FEW, FEW, FEW], [empty, empty],
                     [whole, FEW, textless, empty], [whole, whole, FEW], [FEW, empty, empty], (whole, FEW), [whole] * 12]:
            self.assert_told(sums, texts_over("ab", 4))
            self.assertEqual(made_of(sums=sums), made_of(sums))

    def test_200_texts(self):
        self.assert_told([Sum.whole("ab"), Sum.of("ab", [OUT_200])], ["", OUT_200, OUT_200 + "a", "a" * 20, OUT_200[1:]])
        self.assert_too_many("texts", 200, made_of, [Sum.of("ab", [OUT_201])])
        self.assert_too_many("texts", 200, made_of, [Sum.whole("ab"), Sum.of("ab", [OUT_201]), Sum("ab", [])])
        self.assert_raised(InvalidLevels, {"position": 1}, made_of, [Sum.of("ab", [OUT_201]), Sum.whole("ab")])

    def test_wrong_ones(self):
        whole = Sum.whole("ab")
        for value in OTHERS + [0, "", [], (), {}, {0: whole}, whole, None]:
            if not isinstance(value, (list, tuple)) or len(value) == 0:
                self.assert_raised(InvalidLevels, {"position": None}, made_of, value)
        for value in OTHERS + [0, "ab*", ("ab*",), [whole], SINGLE]:
            if not isinstance(value, Sum):
                self.assert_raised(InvalidLevels, {"position": 0}, made_of, [value, whole])
                self.assert_raised(InvalidLevels, {"position": 2}, made_of, [whole, FEW, value, None])
        for sums, position in [
                ([whole, Sum.whole("abc")], 1), ([Sum.whole("a"), FEW], 1), ([FEW, whole], 1), ([whole, FEW, whole], 2),
                ([FEW, Sum("ab", [()]), FEW], 2), ([FEW, Sum("a", [])], 1), ([Sum("ab", []), Sum("ab", [()])], 1),
                ([FEW, Sum("ab", [("a*",)]), None], 1), ((whole, FEW, FEW, SINGLE), 3)]:
            self.assert_raised(InvalidLevels, {"position": position}, made_of, sums)

    def test_nothing_is_changed(self):
        sums = [Sum.whole("ab"), FEW]
        made_of(sums)
        self.assertEqual(sums, [Sum.whole("ab"), FEW])


class ByLetters(Case):
    def test_what_is_made(self):
        source = random.Random(7)
        numbers = {}
        while sum(numbers.values()) < 150:
            letters = source.choice(["a", "ab", "ab", "abc"])
            one, other = some_machine(source, letters, 4), some_machine(source, letters, 4)
            try:
                number = least_number(one, other)
            except TooMany:
                continue
            if number is None or number > 4 or number < 2 and source.random() < 0.9:
                continue
            numbers[number] = numbers.get(number, 0) + 1
            for more in range(2 if letters != "abc" else 1):
                test = made_by_letters(one, other, number + more)
                self.assertIs(is_test(test), True)
                self.assertLessEqual(letters_of(test), number + more)
                self.assertIs(is_parted_by(one, other, test), True)
                self.assertTrue(all(fits_plain(test, text) for text in texts_over(letters, 4) if one.takes(text)))
                self.assertFalse(any(fits_plain(test, text) for text in texts_over(letters, 4) if other.takes(text)))
        self.assertGreater(len(numbers), 3)
