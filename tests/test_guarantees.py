"""What the document promises over the whole program, for many machines, each promise by several files at once."""

import doctest
import random
import re
import unittest
from pathlib import Path

from missedparts.byparts import is_by_parts, spoiler
from missedparts.checks import does_part, test_of as made_of
from missedparts.claims import is_paper, is_true, paper_of
from missedparts.closures import down, sure_parts, under, up
from missedparts.desk import Desk
from missedparts.edits import mirrored, turned
from missedparts.errors import TooMany
from missedparts.heard import alarms, can_be_heard, never_added, sure
from missedparts.letters import alike_pair, least_number
from missedparts.levels import are_levels, depth, is_ladder, is_tower, ladder, levels, tower
from missedparts.lines import cuts, heard, is_clear, muddle
from missedparts.machines import is_same
from missedparts.mended import how_many_turned, is_mended, mendings
from missedparts.shared import is_shared, kept, shared
from missedparts.sums import Sum
from missedparts.texts import read_machine, read_sum, text_of
from tests.plain import Case, is_part_plain, some_machine, some_product, texts_over
from tests.test_lines import some_line

DOCUMENT = Path(__file__).resolve().parent.parent.parent / "shared" / "DOC.md"


def pairs_of(seed, many, most):
    """So many pairs of machines of at most so many places, some of them a machine and its contrary."""
    source = random.Random(seed)
    for _ in range(many):
        letters = source.choice(["a", "ab", "ab", "abc"])
        one, other = some_machine(source, letters, most), some_machine(source, letters, most)
        yield one, ~one if source.random() < 0.3 else other


class OneSum(Case):
    def test_each_closed_set_has_one_sum_and_one_list_of_least_out_texts(self):
        source = random.Random(1)
        for _ in range(200):
            letters = source.choice(["a", "ab", "abc"])
            some = Sum(letters, [some_product(source, letters, 4) for _ in range(source.randint(0, 3))])
            out = some.least_out()
            texts = texts_over(letters, 4)
            for text in texts:
                self.assertIs(text in some, not any(is_part_plain(each, text) for each in out))
            # The same set is told by its machine, by what is left of it, and by what it lacks: with just the same sum.
            try:
                machine = some.machine()
            except TooMany:
                continue
            if len(machine) <= 6:
                self.assertEqual(down(machine), some)
                self.assertEqual(up(~machine), out)
            if len(out) <= 8 and max([len(text) for text in out], default=0) <= 8:
                self.assertEqual(Sum.without(letters, out), some)
            self.assertEqual(mirrored(mirrored(machine)), machine)
            self.assertEqual(mirrored(machine), some.mirrored().machine())
            self.assertEqual(some & some, some)
            self.assertEqual(some | some, some)
            self.assertEqual(read_sum(text_of(some)), some)
            self.assertEqual(Sum(letters, some.products()), some)


class LevelsOrShared(Case):
    def test_always_just_one_of_both(self):
        seen = {True: 0, False: 0}
        for one, other in pairs_of(2, 300, 4):
            found = shared(one, other)
            seen[found is None] += 1
            for asked in [levels, depth, ladder, tower]:
                self.assertIs(asked(one, other) is None, found is not None)
            self.assertEqual(mendings(one, other) == [()], found is None)
            self.assertIs(is_mended(one, other, []), found is None)
            self.assertEqual(len(kept(one, other)) == 0, found is None)
            self.assertIs(is_true(("shared", one, other)), found is not None)
            self.assertIs(is_true(("parted", one, other, 24)), found is None)
            if found is not None:
                self.assertIs(is_shared(one, other, found), True)
                self.assertIsNone(least_number(one, other))
                self.assertEqual(Desk(one, other).do("depth"), "endless")
            else:
                self.assertIs(are_levels(one, other, levels(one, other)), True)
        self.assertGreater(min(seen.values()), 80)

    def test_as_high_as_few(self):
        for one, other in pairs_of(3, 300, 4):
            if shared(one, other) is None:
                found, many = levels(one, other), depth(one, other)
                self.assertEqual((len(found), len(tower(one, other)), len(ladder(one, other))), (many, many, many))
                self.assertIs(is_tower(one, other, tower(one, other)), True)
                self.assertIs(is_ladder(one, other, ladder(one, other)), True)
                self.assertIn(depth(other, one) - many, (-1, 0, 1))
                self.assertEqual(found[:1], [down(one)] if many else [])
                for at in range(1, many):
                    self.assertEqual(found[at], under((one, other)[at % 2], found[at - 1]))
                # With one level less, or with less in a level, they are not parted.
                for at in range(many):
                    self.assertIs(are_levels(one, other, found[:at] + found[at + 1:]), False)
                    self.assertIs(are_levels(one, other, found[:at] + [Sum(one.letters, [])]), False)
                if found and max(len(text) for some in found for text in some.least_out() + [""]) <= 6:
                    self.assertIs(is_same(one & ~other, one), True)
                    self.assertIs(does_part(one, other, made_of(found)), True)

    def test_a_machine_and_its_contrary(self):
        for one, _ in pairs_of(4, 200, 4):
            self.assertIs(is_by_parts(one), shared(one, ~one) is None)
            self.assertIs(is_by_parts(one), spoiler(one) is None)
            if is_by_parts(one):
                self.assertEqual(abs(depth(one, ~one) - depth(~one, one)), 1)


class ByLetters(Case):
    def test_some_number_is_enough(self):
        for one, other in pairs_of(5, 150, 3):
            if shared(one, other) is None:
                number = least_number(one, other)
                self.assertIsNone(alike_pair(one, other, number))
                if number > 0:
                    self.assertIsNotNone(alike_pair(one, other, number - 1))
                if number <= (4, 4, 2)[len(one.letters) - 1]:
                    claim = ("by letters", one, other, number)
                    self.assertIs(is_paper(claim, paper_of(claim)), True)


class NeverFalse(Case):
    def test_sure_exactly_behind_an_alarm(self):
        for told, wish in pairs_of(6, 150, 4):
            found = alarms(told, wish)
            for text in texts_over(told.letters, 4):
                if can_be_heard(told, text):
                    self.assertIs(sure(told, wish, text), any(is_part_plain(each, text) for each in found))
            self.assertEqual(alarms(told, told), [""] if told.first_taken() is not None else [])
            for text in texts_over(told.letters, 3):
                self.assertIs(text in down(told), can_be_heard(told, text))
            self.assertEqual(never_added(told).least_out(), up(told))
            self.assertEqual("" in sure_parts(told), True)


class Fewest(Case):
    def test_least_and_shortest(self):
        for one, other in pairs_of(7, 150, 4):
            source = random.Random(len(one))
            line = some_line(source, one.letters)
            mine, theirs = heard(one, line), heard(other, line)
            self.assertIs(is_clear(one, other, line), muddle(one, other, line) is None)
            self.assertIs(is_clear(one, other, line), (mine & theirs).first_taken() is None)
            found = cuts(one, other, line)
            self.assertEqual(found == [()], is_clear(one, other, line))
            places = mendings(one, other)[0]
            self.assertEqual(how_many_turned(one, other), len(places))
            self.assertIsNone(shared(turned(one, places), other))
            self.assertEqual(read_machine(text_of(one)), one)


class Document(Case):
    @unittest.skipUnless(DOCUMENT.exists(), "the document is not here")
    def test_examples_one_behind_another(self):
        blocks = re.findall(r"```\n(>>>.*?)```", DOCUMENT.read_text(encoding="utf-8"), re.DOTALL)
        examples = doctest.DocTestParser().get_examples("\n".join(blocks))
        self.assertGreater(len(examples), 40)
        self.assert_examples("\n".join(blocks), len(examples))
