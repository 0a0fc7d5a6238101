"""Claims and their papers: examples, edges, plain readings, wrong inputs."""

import random
from unittest import mock

from missedparts import levels as levels_module
from missedparts.byparts import is_by_parts, is_spoiler
from missedparts.checks import does_part, letters_of
from missedparts.claims import is_claim, is_paper, is_true, paper_of
from missedparts.errors import InvalidClaim, TooMany
from missedparts.heard import can_be_heard, sure
from missedparts.letters import alike_pair, is_alike_pair
from missedparts.levels import are_levels, depth, is_ladder
from missedparts.lines import heard, is_clear
from missedparts.machines import Machine
from missedparts.shared import is_shared, shared
from missedparts.sums import Sum
from tests.plain import (
    ALL, EMPTY_TEXT, FEW, LAST, NOTHING, OTHERS, PAIRS, SINGLE, Case, chain, counter, is_part_plain, some_machine, texts_over,
)
from tests.test_levels import HIGH
from tests.test_lines import EXACT, MIXED, MUTE, NO_LINES, NONE_A, THIN, heard_of, some_line

EXAMPLES = """
>>> from missedparts.machines import Machine
>>> single = Machine("ab", [[1, 0], [2, 1], [2, 2]], [False, True, False])
>>> pairs = Machine("ab", [[1, 0], [2, 1], [3, 2], [3, 3]], [True, False, True, False])
>>> last = Machine("ab", [[0, 1], [0, 1]], [False, True])
>>> from missedparts.claims import is_paper, is_true, paper_of
>>> [is_true(("parted", single, pairs, 2)), is_paper(("shared", last, ~last), ("ab*",))]
[True, True]
"""
SOME_A = Machine("ab", [[1, 0], [1, 1]], [False, True])
FIVE = counter("ab", 5, [0])
NUMBERED = ["parted", "high", "by letters", "alike"]
WORDS = ["shared"] + NUMBERED + ["by parts", "spoiled", "sure", "unsure", "clear", "muddled"]
TRUE = [
    ("shared", LAST, ~LAST), ("shared", ALL, ALL), ("shared", EMPTY_TEXT, ALL), ("parted", SINGLE, PAIRS, 2), ("parted", SINGLE, PAIRS, 24),
    ("parted", NOTHING, ALL, 0), ("parted", *HIGH[0][:2], 11), ("high", SINGLE, PAIRS, 0), ("high", SINGLE, PAIRS, 2), ("high", NOTHING, ALL, 0),
    ("high", LAST, ~LAST, 24), ("high", ALL, ALL, 0), ("high", *HIGH[1][:2], 11), ("by letters", SINGLE, PAIRS, 2), ("by letters", SINGLE, PAIRS, 4),
    ("by letters", NOTHING, ALL, 0), ("by letters", ALL, NOTHING, 0), ("by letters", counter("abc", 1, []), counter("abc", 1, []), 2),
    ("alike", SINGLE, PAIRS, 1), ("alike", SINGLE, PAIRS, 0), ("alike", LAST, ~LAST, 4), ("alike", ALL, ALL, 4), ("by parts", SINGLE),
    ("by parts", PAIRS), ("by parts", NOTHING), ("by parts", ALL), ("spoiled", LAST), ("spoiled", counter("a", 2, [0])),
    ("sure", PAIRS, SOME_A, "a"), ("sure", PAIRS, SOME_A, "bab"), ("sure", ALL, ALL, ""), ("sure", ALL, ALL, "abab"),
    ("sure", ALL, SOME_A, "b" * 50 + "a"), ("sure", counter("a", 2, [0]), counter("a", 2, [0]), "aaa"), ("unsure", PAIRS, SOME_A, "b"),
    ("unsure", ALL, NOTHING, ""), ("unsure", SINGLE, NOTHING, "bab"), ("clear", SINGLE, PAIRS, THIN), ("clear", LAST, ~LAST, EXACT),
    ("clear", NOTHING, ALL, MUTE), ("muddled", SINGLE, PAIRS, NONE_A), ("muddled", ALL, LAST, MUTE), ("muddled", SINGLE, SINGLE, MIXED),
]
FALSE = [
    ("shared", SINGLE, PAIRS), ("shared", NOTHING, ALL), ("parted", SINGLE, PAIRS, 1), ("parted", LAST, ~LAST, 24), ("parted", EMPTY_TEXT, ALL, 24),
    ("parted", *HIGH[0][:2], 10), ("high", SINGLE, PAIRS, 3), ("high", NOTHING, ALL, 1), ("high", *HIGH[0][:2], 12), ("by letters", SINGLE, PAIRS, 1),
    ("by letters", LAST, ~LAST, 4), ("by letters", ALL, ALL, 0), ("alike", SINGLE, PAIRS, 2), ("alike", NOTHING, ALL, 0), ("by parts", LAST),
    ("by parts", counter("ab", 2, [1])), ("spoiled", SINGLE), ("spoiled", NOTHING), ("sure", PAIRS, SOME_A, "b"), ("sure", PAIRS, SOME_A, "aaa"),
    ("sure", NOTHING, ALL, ""), ("sure", ALL, NOTHING, "a"), ("unsure", PAIRS, SOME_A, "a"), ("unsure", PAIRS, NOTHING, "aaa"),
    ("unsure", NOTHING, NOTHING, ""), ("unsure", ALL, ALL, "b"), ("clear", SINGLE, PAIRS, NONE_A), ("clear", ALL, LAST, MUTE),
    ("muddled", SINGLE, PAIRS, THIN), ("muddled", NOTHING, ALL, MUTE), ("muddled", LAST, ~LAST, EXACT),
]


def some_claim(source):
    """A claim of any word, true or not."""
    letters = source.choice(["a", "ab", "ab", "abc"])
    one, other = some_machine(source, letters, 4), some_machine(source, letters, 4)
    word = source.choice(WORDS)
    if word == "shared":
        return word, one, other
    if word in ("by parts", "spoiled"):
        return word, one
    if word in NUMBERED:
        return word, one, other, source.randint(0, 2 if letters == "abc" else 4)
    if word in ("sure", "unsure"):
        return word, one, other, "".join([source.choice(letters) for _ in range(source.randint(0, 3))])
    return word, one, other, some_line(source, letters)


def is_true_plain(word, one, other=None, more=None):
    """By the functions that other files have for it."""
    if word == "shared":
        return shared(one, other) is not None
    if word == "parted":
        return depth(one, other) is not None and depth(one, other) <= more
    if word == "high":
        return depth(one, other) is None or depth(one, other) >= more
    if word in ("by letters", "alike"):
        return (alike_pair(one, other, more) is None) == (word == "by letters")
    if word in ("by parts", "spoiled"):
        return is_by_parts(one) == (word == "by parts")
    if word == "sure":
        return can_be_heard(one, more) and sure(one, other, more)
    if word == "unsure":
        return can_be_heard(one, more) and not sure(one, other, more)
    return is_clear(one, other, more) == (word == "clear")


def shows_plain(word, about, paper):
    """Whether a paper of the right kind shows a claim, by what the document says of it."""
    one, other, more = (*about, None, None)[:3]
    if word == "shared":
        return is_shared(one, other, paper)
    if word == "parted":
        return are_levels(one, other, paper) and len(paper) <= more
    if word == "high":
        return is_ladder(one, other, paper) and len(paper) >= more
    if word == "by letters":
        return letters_of(paper) <= more and does_part(one, other, paper)
    if word == "alike":
        return is_alike_pair(one, other, more, paper)
    if word == "by parts":
        return are_levels(one, ~one, paper)
    if word == "spoiled":
        return is_spoiler(one, paper)
    if word == "unsure":
        return one.takes(paper) and not other.takes(paper) and is_part_plain(more, paper)
    if word == "sure":
        unsure_texts = [text for text in texts_over(one.letters, 5) if one.takes(text) and not other.takes(text)]
        return (one.takes(paper[0]) and is_part_plain(more, paper[0]) and more not in paper[1]
                and all([text in paper[1] for text in unsure_texts]))
    if word == "clear":
        return (heard(one, more) - paper).first_taken() is None and (heard(other, more) & paper).first_taken() is None
    return (one.takes(paper[1]) and other.takes(paper[2]) and paper[0] in heard_of(paper[1], more)
            and paper[0] in heard_of(paper[2], more))


class Examples(Case):
    def test_as_they_stand_in_the_document(self):
        self.assert_examples(EXAMPLES, 6)


class IsClaim(Case):
    def test_right_ones(self):
        for claim in TRUE + FALSE:
            self.assertIs(is_claim(claim), True, claim)
            self.assertIs(is_claim(value=claim), True)
        three = counter("abc", 4, [0])
        for claim, expected in [
                (("parted", SINGLE, PAIRS, 24), True), (("parted", SINGLE, PAIRS, 25), False), (("high", SINGLE, PAIRS, 24), True),
                (("high", SINGLE, PAIRS, 25), False), (("by letters", SINGLE, PAIRS, 4), True), (("by letters", SINGLE, PAIRS, 5), False),
                (("alike", SINGLE, PAIRS, 4), True), (("alike", SINGLE, PAIRS, 5), False), (("by letters", three, three, 2), True),
                (("by letters", three, three, 3), False), (("alike", three, three, 2), True), (("alike", three, three, 3), False),
                (("parted", three, three, 24), True), (("alike", chain("a", 2), chain("a", 1), 4), True),
                (("alike", chain("a", 2), chain("a", 1), 5), False), (("sure", three, three, "abc"), True), (("sure", SINGLE, PAIRS, "abc"), False),
                (("clear", three, three, {letter: [letter] for letter in "abc"}), True), (("clear", three, three, EXACT), False)]:
            self.assertIs(is_claim(claim), expected, claim)

    def wrong_ones(self):
        """Claims that are spoilt in one place."""
        found = list(OTHERS) + [0, "", "shared", (), [], ("shared",), ("",), (SINGLE,), (None, SINGLE, PAIRS), SINGLE]
        for claim in TRUE[::3] + FALSE[::4]:
            found += [list(claim), claim[:-1], claim + (0,), claim + (SINGLE,), ("Shared",) + claim[1:], ("",) + claim[1:], claim[1:],
                      (claim[0].encode(),) + claim[1:], ([claim[0]],) + claim[1:], (True,) + claim[1:], (claim,), {claim[0]: claim[1:]}]
            for at in range(1, len(claim)):
                if isinstance(claim[at], Machine):
                    for value in OTHERS + [0, "ab", FIVE, Sum.whole("ab"), [[0, 0]], counter("abc", 5, [])]:
                        if not isinstance(value, Machine) or len(value) > 4:
                            found.append(claim[:at] + (value,) + claim[at + 1:])
                    if len(claim) > 2:
                        found.append(claim[:at] + (counter("xy", 2, [0]),) + claim[at + 1:])
            if claim[0] in NUMBERED:
                found += [claim[:3] + (value,) for value in OTHERS + ["", "1", 25, 10 ** 29, [], ()]]
            if claim[0] in ("sure", "unsure"):
                found += [claim[:3] + (value,) for value in OTHERS + [0, "c" if len(claim[1].letters) < 3 else "d", (), []]]
            if claim[0] in ("clear", "muddled"):
                found += [claim[:3] + (value,) for value in NO_LINES]
        return found

    def test_any_value(self):
        for value in self.wrong_ones():
            self.assertIs(is_claim(value), False, value)
            self.assert_raised(InvalidClaim, {"value": value}, is_true, value)
            self.assert_raised(InvalidClaim, {"value": value}, paper_of, value)
            self.assert_raised(InvalidClaim, {"value": value}, is_paper, value, None)


class IsTrue(Case):
    def test_edges(self):
        for claim in TRUE:
            self.assertIs(is_true(claim), True, claim)
            self.assertIs(is_true(claim=claim), True)
        for claim in FALSE:
            self.assertIs(is_true(claim), False, claim)
            self.assertIsNone(paper_of(claim))
            self.assertIsNone(paper_of(claim=claim))

    def test_by_the_other_files(self):
        source = random.Random(1)
        seen = {}
        while min([seen.get((word, kind), 0) for word in WORDS for kind in (True, False)]) < 8:
            claim = some_claim(source)
            expected = is_true_plain(claim[0], claim[1], *claim[2:]) if len(claim) == 4 else is_true_plain(*claim)
            seen[claim[0], expected] = seen.get((claim[0], expected), 0) + 1
            self.assertIs(is_true(claim), expected, claim)
            paper = paper_of(claim)
            self.assertIs(paper is not None, expected)
            if expected:
                self.assertIs(is_paper(claim, paper), True, (claim, paper))
                self.assertTrue(shows_plain(claim[0], claim[1:], paper), (claim, paper))
            else:
                self.assertIs(is_paper(claim, paper), False)

    def test_too_many(self):
        one, other = HIGH[0][:2]
        with mock.patch.object(levels_module, "MOST_LEVELS", 10):
            for word in ["parted", "high"]:
                for number in [0, 11, 24]:
                    claim = (word, one, other, number)
                    self.assert_too_many("levels", 10, is_true, claim)
                    self.assert_too_many("levels", 10, paper_of, claim)
                    self.assertIs(is_paper(claim, None), False)
            self.assertIs(is_true(("shared", one, other)), False)
        with mock.patch.object(levels_module, "MOST_LEVELS", 1):
            self.assertIs(is_true(("by parts", SINGLE)), True)
            self.assert_too_many("levels", 1, paper_of, ("by parts", SINGLE))
            self.assertIs(is_true(("spoiled", SINGLE)), False)
            self.assertIsNone(paper_of(("by parts", LAST)))
            self.assertIsNone(paper_of(("parted", LAST, ~LAST, 3)))
            self.assertEqual(len(paper_of(("high", LAST, ~LAST, 3))), 3)
        with mock.patch.object(Sum, "MOST_PRODUCTS", 1):
            self.assertRaises(TooMany, is_true, ("parted", *HIGH[3][:2], 4))
            # For nothing else but levels anything may be too many.
            for claim in [("shared", *HIGH[0][:2]), ("alike", *HIGH[3][:2], 1), ("sure", ALL, ~chain("ab", 2), "aba")]:
                self.assertIs(is_paper(claim, paper_of(claim)), is_true(claim))


class Papers(Case):
    def test_kinds(self):
        for claim in TRUE:
            paper = paper_of(claim)
            self.assertIs(is_paper(claim, paper), True, claim)
            self.assertIs(is_paper(value=paper, claim=claim), True)
            self.assertEqual(paper_of(claim), paper)
            expected = {"parted": list, "high": list, "by parts": list, "unsure": str, "clear": Machine}.get(claim[0], tuple)
            self.assertIs(type(paper), expected, claim)
            if expected is list:
                self.assertIs(is_paper(claim, tuple(paper)), True)
            if expected is tuple:
                self.assertIs(is_paper(claim, list(paper)), False)

    def test_spoilt_in_one_place(self):
        others = OTHERS + [0, 1, "", "c", "ab", ("ab*",), ("a", "b"), [Sum.whole("ab")], [FEW, FEW, FEW], [("ab*",)], ("part", "a"), ALL, NOTHING,
                           ("all", ()), ("", "", ""), Sum("abc", [])]
        for claim in TRUE + FALSE:
            for value in others:
                found = is_paper(claim, value)
                self.assertIs(type(found), bool)
                if claim in FALSE:
                    self.assertIs(found, False, (claim, value))
        for claim in TRUE:
            paper = paper_of(claim)
            if isinstance(paper, (tuple, list)):
                for at in range(len(paper)):
                    for value in [None, 0, True, "C", [], {}, len, ("A",), [paper[at]], (paper[at],)]:
                        spoilt = type(paper)([*paper[:at], value, *paper[at + 1:]])
                        if claim[0] not in ("by letters",) and value not in ([], ("A",)):
                            self.assertIs(is_paper(claim, spoilt), False, (claim, spoilt))
                        self.assertIs(type(is_paper(claim, spoilt)), bool)
                self.assertIs(is_paper(claim, paper + type(paper)([None])), False)
                if claim[0] in ("by letters", "alike", "spoiled", "sure", "muddled"):
                    self.assertIs(is_paper(claim, paper[:-1]), False)

    def test_each_kind(self):
        one, other = SINGLE, PAIRS
        q1, q2 = [Sum("ab", [("b*", "a", "b*")]), Sum("ab", [("b*",)])]
        whole, empty = Sum.whole("ab"), Sum("ab", [])
        for claim, paper, expected in [
                (("shared", LAST, ~LAST), ("a", "ab*"), True), (("shared", LAST, ~LAST), ("b*", "a*"), False), (("shared", LAST, SINGLE), ("ab*",), False),
                (("shared", LAST, SINGLE), ("a", "b"), True), (("shared", LAST, SINGLE), (), False), (("shared", LAST, SINGLE), ("c",), False),
                (("parted", one, other, 2), [q1, q2], True), (("parted", one, other, 2), [q1, q2, empty], False),
                (("parted", one, other, 3), [q1, q2, empty], True), (("parted", one, other, 3), [whole, q2], False),
                (("parted", one, other, 24), [whole, whole, q1, q2], True), (("parted", one, other, 3), [whole, whole, q1, q2], False),
                (("parted", one, other, 2), [q1], False), (("parted", one, other, 1), [q1, q2], False), (("parted", NOTHING, ALL, 0), [], True),
                (("high", one, other, 2), [("b*", "a", "b*"), ("b*",)], True), (("high", one, other, 2), [("a",), ()], True),
                (("high", one, other, 1), [("a",), ()], True), (("high", one, other, 2), [("a",)], False), (("high", one, other, 0), [], True),
                (("high", one, other, 2), [(), ("a",)], False), (("high", one, other, 3), [("a",), ()], False),
                (("high", LAST, ~LAST, 3), [("ab*",)] * 3, True), (("high", LAST, ~LAST, 3), [("ab*",)] * 2, False),
                (("by letters", one, other, 2), ("all", (("part", "a"), ("not", ("part", "aa")))), True),
                (("by letters", one, other, 3), ("all", (("part", "a"), ("not", ("part", "aa")), ("not", ("part", "zzz")))), True),
                (("by letters", one, other, 2), ("all", (("part", "a"), ("not", ("part", "aa")), ("not", ("part", "zzz")))), False),
                (("by letters", one, other, 2), ("part", "a"), False), (("by letters", one, other, 1), ("part", "a"), False),
                (("by letters", NOTHING, ALL, 0), ("any", ()), True), (("by letters", NOTHING, ALL, 0), ("not", ("part", "")), True),
                (("by letters", NOTHING, ALL, 0), ("part", "a"), False), (("alike", one, other, 1), ("ab", "aa"), False),
                (("alike", one, other, 1), ("ab", "aab"), True), (("alike", one, other, 1), ("aab", "ab"), False), (("alike", one, other, 1), ("a", ""), False),
                (("alike", one, other, 0), ("a", ""), True), (("by parts", one), [q1, q2], True), (("by parts", one), [q1], False),
                (("by parts", one), [q1, q2, q2, q2], True), (("by parts", NOTHING), [], True), (("by parts", ALL), [whole], True),
                (("spoiled", LAST), ("round", "", "b", "a", ""), True), (("spoiled", LAST), ("round", "b", "a", "b", ""), True),
                (("spoiled", LAST), ("round", "", "a", "b", ""), False), (("spoiled", LAST), ("fork", "", "a", "a", "b", ""), False),
                (("sure", PAIRS, SOME_A, "a"), ("aa", Sum("ab", [("b*",)])), True), (("sure", PAIRS, SOME_A, "a"), ("aba", q2), True),
                (("sure", PAIRS, SOME_A, "a"), ("a", q2), False), (("sure", PAIRS, SOME_A, "a"), ("bb", q2), False), (("sure", PAIRS, SOME_A, "a"), ("aa", q1), False),
                (("sure", PAIRS, SOME_A, "a"), ("aa", empty), False), (("sure", PAIRS, SOME_A, "a"), ("aa", Sum("ab", [("b", "b")])), False),
                (("sure", PAIRS, SOME_A, "a"), ("aa", Sum("bcd", [("bc*",)])), True), (("sure", PAIRS, SOME_A, "a"), ("aa", Sum("cd", [("cd*",)])), False),
                (("sure", PAIRS, SOME_A, "ba"), ("aab", q2), False), (("sure", PAIRS, SOME_A, "ba"), ("baa", q2), True),
                (("unsure", PAIRS, SOME_A, "b"), "bb", True), (("unsure", PAIRS, SOME_A, "b"), "", False), (("unsure", PAIRS, SOME_A, "b"), "aab", False),
                (("unsure", PAIRS, SOME_A, "b"), "c", False), (("unsure", PAIRS, SINGLE, "b"), "ab", False),
                (("clear", one, other, THIN), one, True), (("clear", one, other, THIN), other, False), (("clear", one, other, THIN), ~other, True),
                (("clear", one, other, EXACT), one, True), (("clear", one, other, EXACT), ~other, True), (("clear", one, other, EXACT), ALL, False),
                (("clear", one, other, EXACT), Machine("abc", [[0, 0, 0]], [True]), False), (("clear", NOTHING, ALL, MUTE), NOTHING, True),
                (("clear", NOTHING, ALL, MUTE), counter("ab", 40, [7]), True), (("clear", NOTHING, ALL, MUTE), counter("ab", 40, [0]), False),
                (("clear", NOTHING, ALL, MUTE), counter("a", 40, [7]), False),
                (("muddled", one, other, NONE_A), ("", "a", ""), True), (("muddled", one, other, NONE_A), ("b", "ab", "aba"), True),
                (("muddled", one, other, NONE_A), ("", "", "a"), False), (("muddled", one, other, NONE_A), ("a", "a", ""), False),
                (("muddled", one, other, NONE_A), ("b", "a", "b"), False), (("muddled", one, other, NONE_A), ("c", "a", ""), False),
                (("muddled", one, other, NONE_A), ("a", "a", "aa"), True), (("muddled", one, other, NONE_A), ("ba", "ab", "baa"), False)]:
            self.assertIs(is_paper(claim, paper), expected, (claim, paper))

    def test_some_papers(self):
        # A test shows it whatever number of texts it has.
        many = ("any", tuple(("part", letter * 2) for letter in "cdefghijklmnopqrstuvwxyz"))
        once = ("all", (("part", "a"), ("not", ("part", "aa")), ("not", many)))
        self.assertIs(is_paper(("by letters", SINGLE, PAIRS, 2), once), True)
        self.assertIs(is_paper(("by letters", SINGLE, PAIRS, 4), ("any", (once, many))), True)

    def test_no_paper_shows_what_is_not_true(self):
        source = random.Random(2)
        papers = {}
        for _ in range(500):
            claim = some_claim(source)
            paper = paper_of(claim)
            if paper is not None:
                papers.setdefault(claim[0], []).append(paper)
            for other in source.sample(papers.get(claim[0], []), min(4, len(papers.get(claim[0], [])))):
                if is_paper(claim, other):
                    self.assertIs(is_true(claim), True, (claim, other))

    def test_long_texts(self):
        # What shows that it is sure needs just few of the letters.
        claim = ("sure", LAST, SOME_A, "ab" * 4500)
        text, some = paper_of(claim)
        self.assertEqual((text, some), ("ab" * 4500, Sum("ab", [("b*",)])))
        self.assertIs(is_paper(claim, (text, some)), True)
        claim = ("muddled", LAST, LAST, THIN)
        self.assertIs(is_paper(claim, ("a" * 4500, "ab" * 4500, "a" * 4500 + "b")), True)
        self.assertIs(is_paper(claim, ("a" * 4501, "ab" * 4500, "a" * 4500 + "b")), False)

    def test_nothing_is_changed(self):
        line = {"b": ["b"], "a": ["a", ""]}
        claim = ("muddled", SINGLE, PAIRS, line)
        self.assertIs(is_paper(claim, paper_of(claim)), True)
        self.assertEqual(line, {"b": ["b"], "a": ["a", ""]})
        paper_of(("parted", SINGLE, PAIRS, 2)).clear()
        self.assertEqual(len(paper_of(("parted", SINGLE, PAIRS, 2))), 2)
