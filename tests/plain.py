"""Plain readings of the document, slow and short, by which the tests judge the program."""

import doctest
import re
import unittest
from itertools import product

from missedparts.errors import TooMany
from missedparts.machines import Machine
from missedparts.sums import Sum

SINGLE = Machine("ab", [[1, 0], [2, 1], [2, 2]], [False, True, False])
PAIRS = Machine("ab", [[1, 0], [2, 1], [3, 2], [3, 3]], [True, False, True, False])
LAST = Machine("ab", [[0, 1], [0, 1]], [False, True])
FEW = Sum("ab", [("b*", "a", "b*")])
NOTHING = Machine("ab", [[0, 0]], [False])
ALL = Machine("ab", [[0, 0]], [True])
EMPTY_TEXT = Machine("ab", [[1, 1], [1, 1]], [True, False])

# Values of all kinds that are no text, no letters, no place, no number, no product and no piece.
OTHERS = [
    None, True, False, -1, -10 ** 29, "A", "a b", "a\n", "-", "ba*", "**", b"", b"a", [], ["a"], [["a"]], {}, {"a": 1},
    {"a"}, (None,), ("A",), (("a",),), ("a", 1), object(), len, int, ValueError("a"), range(2), SINGLE, FEW,
]


class Case(unittest.TestCase):
    """A test case with what several files look at."""

    def assert_examples(self, examples, many):
        """Examples as they stand in the document, of which there are so many."""
        test = doctest.DocTestParser().get_doctest(examples, {}, "examples", None, 0)
        result = doctest.DocTestRunner().run(test)
        self.assertEqual((result.failed, result.attempted), (0, many))

    def assert_raised(self, kind, values, asked, *passed, **named):
        with self.assertRaises(kind) as held:
            asked(*passed, **named)
        error = held.exception
        self.assertIs(type(error), kind)
        self.assertEqual(vars(error), values)
        for name, value in values.items():
            self.assertIs(type(getattr(error, name)), type(value))

    def assert_too_many(self, what, limit, asked, *passed):
        self.assert_raised(TooMany, {"what": what, "limit": limit}, asked, *passed)

    def assert_kept(self, products):
        """Sorted and reduced products, none within another one."""
        self.assertIs(type(products), list)
        self.assertEqual(products, sorted(products))
        for one in products:
            self.assertTrue(is_reduced(one), one)
            for other in products:
                self.assertEqual(is_within_plain(one, other), one == other, (one, other))


def texts_over(letters, most):
    """All texts over the letters with at most so many letters, the least first."""
    return ["".join(row) for long in range(most + 1) for row in product(letters, repeat=long)]


def place_of(text):
    """By what texts are compared."""
    return len(text), text


def is_part_plain(text, whole):
    left = iter(whole)
    return all(letter in left for letter in text)


def expression(product_):
    """A regular expression for the texts of a product."""
    return re.compile("".join([f"[{piece[:-1]}]*" if piece[-1] == "*" else f"{piece}?" for piece in product_]))


def of_products(products, texts):
    """Those of the texts that are texts of one of the products."""
    shapes = [expression(each) for each in products]
    return [text for text in texts if any(shape.fullmatch(text) for shape in shapes)]


def is_within_plain(one, other):
    """By the longest text of one that can matter: each piece of the other one can be passed once at most."""
    text = "".join([piece[:-1] * (len(other) + 1) if piece[-1] == "*" else piece for piece in one])
    return bool(expression(other).fullmatch(text))


def is_reduced(product_):
    for first, second in zip(product_, product_[1:]):
        for piece, star in [(first, second), (second, first)]:
            if star[-1] == "*" and set(piece.rstrip("*")) <= set(star[:-1]):
                return False
    return True


def some_product(source, letters, most):
    """A product over the letters with at most so many pieces."""
    pieces = []
    for _ in range(source.randint(0, most)):
        if source.random() < 0.5:
            pieces.append(source.choice(letters))
        else:
            many = source.randint(1, min(2, len(letters)))
            pieces.append("".join(sorted(source.sample(letters, many))) + "*")
    return tuple(pieces)


def some_machine(source, letters, most):
    """A machine with at most so many places; often most of its steps lead on."""
    many = source.randint(1, most)
    on = source.random() < 0.6
    rows = [[source.randrange(at if on and source.random() < 0.85 else 0, many) for _ in letters]
            for at in range(many)]
    return Machine.come_to(letters, rows, [source.random() < 0.4 for _ in range(many)])


def counter(letters, many, taken):
    """The machine that takes the texts whose number of letters, counted round by so many, is one of these."""
    rows = [[(at + 1) % many] * len(letters) for at in range(many)]
    return Machine(letters, rows, [at in taken for at in range(many)])


def chain(letters, many):
    """The machine that takes the texts of just so many letters."""
    rows = [[at + 1] * len(letters) for at in range(many + 1)] + [[many + 1] * len(letters)]
    return Machine(letters, rows, [at == many for at in range(many + 2)])


def wholes_plain(machine, products, text):
    """The least whole of a text that is taken and a text of one of the products, with sets of positions; None."""
    start = (0, 0, frozenset((at, 0) for at in range(len(products))))
    met, row = {start}, [("", start)]
    while row:
        longer = []
        for whole, (matched, place, positions) in row:
            if matched == len(text) and machine.kinds()[place] and positions:
                return whole
            for letter in machine.letters:
                behind = frozenset(
                    (which, at if piece[-1] == "*" else at + 1) for which, first in positions
                    for at, piece in enumerate(products[which]) if at >= first and letter in piece)
                state = (matched + (text[matched:matched + 1] == letter), machine.goal(place, letter), behind)
                if behind and state not in met:
                    met.add(state)
                    longer.append((whole + letter, state))
        row = longer
    return None
