"""Machines and sums as written texts: examples, edges, plain readings, wrong inputs."""

import random

from missedparts.errors import InvalidRow
from missedparts.machines import Machine
from missedparts.sums import Sum
from missedparts.texts import bytes_of, read_machine, read_sum, text_of
from tests.plain import (
    ALL, EMPTY_TEXT, FEW, LAST, NOTHING, OTHERS, PAIRS, SINGLE, Case, chain, counter, some_machine, some_product, texts_over,
)

EXAMPLES = """
>>> from missedparts.sums import Sum
>>> few = Sum.without("ab", ["aa"])
>>> from missedparts.texts import read_sum, text_of
>>> [text_of(few), read_sum(text_of(few)) == few]
['sum ab\\nproduct b* a b*\\n', True]
"""
SINGLE_TEXT = "letters ab\nno 0 to 1 0\nyes 1 to 2 1\nno 2 to 2 2\n"
SIXTY = [text for text in texts_over("abc", 4) if len(text) == 4][:60]


class Examples(Case):
    def test_as_they_stand_in_the_document(self):
        self.assert_examples(EXAMPLES, 4)


class Written(Case):
    def test_machines(self):
        for machine, expected in [
                (SINGLE, SINGLE_TEXT), (ALL, "letters ab\nyes 0 to 0 0\n"), (NOTHING, "letters ab\nno 0 to 0 0\n"),
                (EMPTY_TEXT, "letters ab\nyes 0 to 1 1\nno 1 to 1 1\n"), (counter("x", 2, [1]), "letters x\nno 0 to 1\nyes 1 to 0\n"),
                (Machine("abz", [[2, 1, 1], [1, 1, 1], [0, 0, 0]], [True, False, True]),
                 "letters abz\nyes 0 to 2 1 1\nno 1 to 1 1 1\nyes 2 to 0 0 0\n")]:
            self.assertEqual(text_of(machine), expected)
            self.assertEqual(text_of(entry=machine), expected)
            self.assertEqual(bytes_of(machine), expected.encode("ascii"))
            self.assertEqual(read_machine(expected), machine)
            self.assertEqual(read_machine(written=expected), machine)
            self.assert_raised(InvalidRow, {"row": 1}, read_sum, expected)
        long = text_of(counter("abc", 40, [0, 39]))
        self.assertEqual(len(long.split("\n")), 42)
        self.assertEqual(long.split("\n")[40], "yes 39 to 0 0 0")
        self.assertEqual(read_machine(long), counter("abc", 40, [0, 39]))

    def test_sums(self):
        for some, expected in [
                (FEW, "sum ab\nproduct b* a b*\n"), (Sum("ab", []), "sum ab\n"), (Sum("ab", [()]), "sum ab\nproduct\n"),
                (Sum.whole("abc"), "sum abc\nproduct abc*\n"), (Sum("xyz", [("z*", "xy*"), ("x", "y")]), "sum xyz\nproduct z* xy*\n"),
                (Sum.of("ab", ["ab", "ba"]), "sum ab\nproduct a b\nproduct b a\n"),
                (Sum("ab", [("b*", "a"), ("a*", "b"), ("a", "b*")]), "sum ab\nproduct a b*\nproduct a* b\nproduct b* a\n")]:
            self.assertEqual(text_of(some), expected)
            self.assertEqual(text_of(entry=some), expected)
            self.assertEqual(bytes_of(entry=some), expected.encode("ascii"))
            self.assertEqual(read_sum(expected), some)
            self.assertEqual(read_sum(written=expected), some)
            self.assert_raised(InvalidRow, {"row": 1}, read_machine, expected)
        sixty = Sum.of("abc", SIXTY)
        self.assertEqual(len(text_of(sixty).split("\n")), 62)
        self.assertEqual(read_sum(text_of(sixty)), sixty)

    def test_some_of_both(self):
        source = random.Random(1)
        for _ in range(300):
            letters = source.choice(["a", "ab", "abc"])
            machine = some_machine(source, letters, 12)
            self.assertEqual(read_machine(text_of(machine)), machine)
            some = Sum(letters, [some_product(source, letters, 4) for _ in range(source.randint(0, 5))])
            self.assertEqual(read_sum(text_of(some)), some)
            self.assertIs(type(bytes_of(some)), bytes)


class ReadMachine(Case):
    def test_wrong_rows(self):
        for written, row in [
                ("", 1), ("\n", 1), ("letters", 1), ("letters\n", 1), ("letters \n", 1), ("letters ab", 1), ("letters ab \n", 1),
                ("letters  ab\n", 1), (" letters ab\n", 1), ("letters ba\n", 1), ("letters abcd\n", 1), ("letters a b\n", 1),
                ("letters aa\n", 1), ("letters A\n", 1), ("Letters a\n", 1), ("letter a\n", 1), ("sum ab\n", 1), ("letters ab\n", 2),
                ("letters ab\n\n", 2), ("letters ab\nyes 0 to 0 0", 2), ("letters ab\nyes 0 to 0 0\n\n", 3),
                ("letters ab\nyes 0 to 0 0\n ", 3), ("letters ab\nyes 0 to 0 0\nno", 3), ("\nletters ab\nyes 0 to 0 0\n", 1),
                ("letters ab\nno 0 to 0 0\nyes 1 to 0 0", 3), ("letters ab\nyes 0 to 1 1\nyes 1 to 0 0\nx\n", 4)]:
            self.assert_raised(InvalidRow, {"row": row}, read_machine, written)

    def test_each_line_in_each_way(self):
        for wrong in ["", "yes", "yes 0", "yes 0 to", "yes 0 to 0", "yes 0 to 0 0 0", "yes 0 to 0  0", "yes 0 to 0 0 ", " yes 0 to 0 0",
                      "yes  0 to 0 0", "yes 0  to 0 0", "yes 00 to 0 0", "yes 0 to 00 0", "yes 0 to 0 01", "yes 0 to 0 -1", "yes 0 to 0 +0",
                      "yes 0 to 0 40", "yes 0 to 41 0", "yes 0 to 0 99999999999999999999", "yes 0 to 0 x", "yes 0 to 0 0x0", "yes 0 to 0 1_0",
                      "yes 9 to 0 0", "yes x to 0 0", "yes -0 to 0 0", "Yes 0 to 0 0", "yes 0 To 0 0", "true 0 to 0 0", "0 to 0 0", "yes 0 0 0",
                      "yes 0 to 0,0", "letters ab", "no0 to 0 0", "yes 0 to 0 0.", "yes 0 to 0 " + "9" * 5000, "yes 0 to 0 ''", "no 0 to 0 ."]:
            self.assert_raised(InvalidRow, {"row": 2}, read_machine, f"letters ab\n{wrong}\n")
            self.assert_raised(InvalidRow, {"row": 2}, read_machine, f"letters ab\n{wrong}\nno 1 to 0 0\n")
            self.assert_raised(InvalidRow, {"row": 3}, read_machine, f"letters ab\nno 0 to 1 0\n{wrong}\nno 2 to 0 0\n")
            # Ahead of goals that are no places and of places that are not come to, in whatever lines.
            self.assert_raised(InvalidRow, {"row": 4}, read_machine, f"letters ab\nno 0 to 39 0\nyes 1 to 2 2\n{wrong}\n")
        for places in [[1], [0, 0], [0, 2], [0, 1, 1], [0, 1, 3]]:
            lines = [f"yes {place} to 0 0\n" for place in places]
            self.assert_raised(InvalidRow, {"row": len(places) + 1}, read_machine, "letters ab\n" + "".join(lines))
        self.assertEqual(read_machine("letters ab\nyes 0 to 0 0\n"), ALL)

    def test_goals_and_places_not_come_to(self):
        for written, row in [
                ("letters ab\nno 0 to 0 1\n", 2), ("letters ab\nno 0 to 1 0\nyes 1 to 2 1\n", 3), ("letters ab\nno 0 to 1 39\nyes 1 to 2 1\n", 2),
                ("letters ab\nno 0 to 0 0\nyes 1 to 2 1\n", 3), ("letters ab\nno 0 to 0 0\nyes 1 to 1 1\n", 3),
                ("letters ab\nno 0 to 2 0\nyes 1 to 1 1\nno 2 to 0 0\nno 3 to 3 3\n", 3), ("letters ab\nno 0 to 1 1\nno 1 to 0 0\nno 2 to 0 1\n", 4),
                ("letters a\nno 0 to 0\nno 1 to 2\nno 2 to 3\n", 4)]:
            self.assert_raised(InvalidRow, {"row": row}, read_machine, written)

    def test_40_places(self):
        rows = ["letters a"] + [f"no {at} to {(at + 1) % 40}" for at in range(40)]
        self.assertEqual(read_machine("\n".join(rows) + "\n"), counter("a", 40, []))
        self.assert_raised(InvalidRow, {"row": 42}, read_machine, "\n".join(rows) + "\nno 40 to 0\n")
        self.assert_raised(InvalidRow, {"row": 42}, read_machine, "\n".join(rows) + "\n\n")
        self.assert_raised(InvalidRow, {"row": 41}, read_machine, "\n".join(rows))
        # Ahead of a place that is not come to, and of goals that are no places.
        lost = [rows[0], "no 0 to 2"] + rows[2:] + ["no 40 to 0", ""]
        self.assert_raised(InvalidRow, {"row": 42}, read_machine, "\n".join(lost))
        self.assert_raised(InvalidRow, {"row": 3}, read_machine, "letters ab\nno 0 to 39 0\nno 1 to 0 40\n")
        self.assert_raised(InvalidRow, {"row": 2}, read_machine, "letters ab\nno 0 to 39 0\nno 1 to 0 39\n")
        self.assert_raised(InvalidRow, {"row": 41}, read_machine, "\n".join(rows[:-1] + ["no 39 to 40", ""]))

    def test_any_value(self):
        for value in OTHERS + [0, b"letters a\nno 0 to 0\n", ["letters a", "no 0 to 0"], (SINGLE_TEXT,), {SINGLE_TEXT: 1}]:
            if not isinstance(value, str):
                self.assert_raised(InvalidRow, {"row": 1}, read_machine, value)

    def test_spoilt_in_one_place(self):
        source = random.Random(2)
        for written in [SINGLE_TEXT, text_of(PAIRS), text_of(counter("abc", 12, [3])), text_of(chain("a", 2))]:
            for at in range(len(written)):
                for spoilt in [written[:at] + written[at + 1:], written[:at] + source.choice("01 ab\nyesno") + written[at:],
                               written[:at] + source.choice("0123 ab\n") + written[at + 1:], written[:at]]:
                    try:
                        found = read_machine(spoilt)
                    except InvalidRow as error:
                        self.assertTrue(1 <= error.row <= spoilt.count("\n") + 1)
                        continue
                    self.assertEqual(text_of(found), spoilt)


class ReadSum(Case):
    def test_wrong_rows(self):
        for written, row in [
                ("", 1), ("\n", 1), ("sum", 1), ("sum\n", 1), ("sum \n", 1), ("sum ab", 1), ("sum ab \n", 1), ("sum  ab\n", 1), ("Sum ab\n", 1),
                ("sum ba\n", 1), ("sum abcd\n", 1), ("letters ab\n", 1), ("sum ab\n\n", 2), ("sum ab\nproduct a", 2),
                ("sum ab\nproduct\n\n", 3), ("sum ab\nproduct a\n ", 3), ("sum ab\nproduct a\nproduct b", 3)]:
            self.assert_raised(InvalidRow, {"row": row}, read_sum, written)

    def test_each_line_in_each_way(self):
        for wrong in ["", "products a", "Product a", "product ", "product  a", "product a ", " product a", "product ab", "product c", "product a c",
                      "product ba*", "product aa*", "product *", "product a**", "product a *", "product A", "product a,b", "product abc*", "product a a*",
                      "product a* a", "product a* ab*", "product ab* b", "product a* a*", "product 1", "a", "product a\tb", "product ()"]:
            self.assert_raised(InvalidRow, {"row": 2}, read_sum, f"sum ab\n{wrong}\n")
            self.assert_raised(InvalidRow, {"row": 3}, read_sum, f"sum ab\nproduct a b*\n{wrong}\nproduct b* a\n")
            # Ahead of products within other ones, in whatever lines.
            self.assert_raised(InvalidRow, {"row": 4}, read_sum, f"sum ab\nproduct a\nproduct a b\n{wrong}\n")

    def test_the_sequence(self):
        for written, row in [
                ("sum ab\nproduct b\nproduct a\n", 3), ("sum ab\nproduct a b\nproduct a b\n", 3), ("sum ab\nproduct a b\nproduct a\n", 3),
                ("sum ab\nproduct a*\nproduct a\n", 3), ("sum ab\nproduct b* a\nproduct a* b\nproduct b\n", 3),
                ("sum ab\nproduct a\nproduct\n", 3), ("sum ab\nproduct a b\nproduct b a\nproduct a b\n", 4)]:
            self.assert_raised(InvalidRow, {"row": row}, read_sum, written)

    def test_within_another_one(self):
        for written, row in [
                ("sum ab\nproduct\nproduct a\n", 2), ("sum ab\nproduct a\nproduct a*\n", 2), ("sum ab\nproduct a b\nproduct ab*\n", 2),
                ("sum ab\nproduct a b\nproduct b\n", 3), ("sum ab\nproduct a b*\nproduct b\nproduct b a\n", 3),
                ("sum ab\nproduct ab*\nproduct b\nproduct b a\n", 3), ("sum ab\nproduct a\nproduct a b\nproduct b\n", 2)]:
            self.assert_raised(InvalidRow, {"row": row}, read_sum, written)

    def test_60_products(self):
        rows = ["sum abc"] + ["product " + " ".join(text) for text in SIXTY]
        self.assertEqual(read_sum("\n".join(rows) + "\n"), Sum.of("abc", SIXTY))
        self.assert_raised(InvalidRow, {"row": 62}, read_sum, "\n".join(rows) + "\nproduct c c c c\n")
        self.assert_raised(InvalidRow, {"row": 62}, read_sum, "\n".join(rows) + "\nproduct c c c c")
        # Ahead of a product within another one.
        self.assert_raised(InvalidRow, {"row": 62}, read_sum, "\n".join([rows[0], "product a a a"] + rows[1:] + [""]))
        self.assert_raised(InvalidRow, {"row": 2}, read_sum, "\n".join([rows[0], "product a a a"] + rows[1:-1] + [""]))

    def test_long_products(self):
        pieces = ["a", "b"] * 30
        written = "sum ab\nproduct " + " ".join(pieces) + "\n"
        self.assertEqual(read_sum(written), Sum("ab", [tuple(pieces)]))

    def test_any_value(self):
        for value in OTHERS + [0, b"sum a\n", ["sum a"], ("sum a\n",), {"sum a\n": 1}]:
            if not isinstance(value, str):
                self.assert_raised(InvalidRow, {"row": 1}, read_sum, value)
        for value in OTHERS:
            if isinstance(value, str):
                self.assert_raised(InvalidRow, {"row": 1}, read_sum, value)
                self.assert_raised(InvalidRow, {"row": 1}, read_machine, value)

    def test_spoilt_in_one_place(self):
        source = random.Random(3)
        for written in [text_of(FEW), text_of(Sum.of("abc", ["abc", "cba", "bb"])), text_of(Sum("abc", [("ab*", "c", "a*"), ("c*", "b")]))]:
            for at in range(len(written)):
                for spoilt in [written[:at] + written[at + 1:], written[:at] + source.choice("abc* \nd") + written[at:],
                               written[:at] + source.choice("abc* \n") + written[at + 1:], written[:at]]:
                    try:
                        found = read_sum(spoilt)
                    except InvalidRow as error:
                        self.assertTrue(1 <= error.row <= spoilt.count("\n") + 1)
                        continue
                    self.assertEqual(text_of(found), spoilt)
