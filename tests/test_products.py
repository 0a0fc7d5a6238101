"""Products: examples, edges, plain readings, wrong inputs."""

import random
from itertools import product

from missedparts.errors import InvalidNumber, InvalidProduct, InvalidText
from missedparts.products import has, is_product, is_within, meet, reduced, unrolled
from tests.plain import (
    OTHERS, Case, expression, is_reduced, is_within_plain, of_products, some_product, texts_over,
)

EXAMPLES = """
>>> from missedparts.products import has, is_within, meet, reduced, unrolled
>>> [has(("b*", "a", "b*"), "bab"), is_within(("a", "b"), ("ab*",)), reduced(("a", "ab*", "b*", "a")), meet(("a", "b"), ("b", "a"))]
[True, True, ('ab*',), [('a',), ('b',)]]
>>> unrolled(("ab*", "a"), 2)
'ababa'
"""
NO_PRODUCTS = [value for value in OTHERS if value != ()] + [
    0, 1, "", "a", "ab*", ["a"], [], ("",), ("*",), ("ab",), ("a", "ab"), ("ba*",), ("aa*",), ("abcd*",), ("a**",),
    ("*a",), ("A*",), ("a b*",), ("a", None), ("a", True), ("a", ["b"]), ("a", ("b",)), ("a", b"b"), (1,), ("%",),
    ("a", "b", "c", ""), ("-",), ("a\n",), ("a*\n",),
]
SIXTY = (
    ("a*", "d*", "a", "b*", "cd*", "b*", "d", "bc*", "a", "d"),
    ("d", "ac*", "b", "a", "b", "d*", "b", "c", "b", "ad*", "c"),
)
SIXTY_ONE = (
    ("b*", "a", "c*", "d", "ab*", "c", "a*", "b", "a", "cd*", "a", "d"),
    ("d", "a", "bd*", "c*", "bd*", "ad*", "bc*", "a*", "d*"),
)


class Examples(Case):
    def test_as_they_stand_in_the_document(self):
        self.assert_examples(EXAMPLES, 3)


class IsProduct(Case):
    def test_products(self):
        for value in [(), ("a",), ("z",), ("a*",), ("ab*",), ("xyz*",), ("a", "a"), ("a*", "a*"), ("m", "abc*", "az*"),
                      ("a",) * 1000]:
            self.assertIs(is_product(value), True)
            self.assertIs(is_product(value=value), True)

    def test_no_products(self):
        for value in NO_PRODUCTS:
            self.assertIs(is_product(value), False, value)


class Has(Case):
    def test_edges(self):
        for pieces, text, expected in [
                ((), "", True), ((), "a", False), (("a",), "", True), (("a",), "a", True), (("a",), "aa", False),
                (("a*",), "a" * 9000, True), (("a*",), "a" * 8999 + "b", False), (("a", "b"), "ba", False),
                (("a", "b"), "ab", True), (("a", "b"), "b", True), (("ab*", "c"), "abbac", True),
                (("ab*", "c"), "abbaca", False), (("a", "b", "a"), "aa", True), (("xyz*",), "zyx", True),
                (("a",), "z", False), (("a", "ab*", "b"), "baab", True)]:
            self.assertIs(has(pieces, text), expected, (pieces, text))
        self.assertIs(has(text="ab", product=("ab*",)), True)

    def test_by_a_plain_reading(self):
        source = random.Random(1)
        for _ in range(200):
            letters = source.choice(["a", "ab", "abc"])
            pieces = some_product(source, letters, 6)
            texts = texts_over(letters, 6 if len(letters) < 3 else 4)
            self.assertEqual([text for text in texts if has(pieces, text)], of_products([pieces], texts))

    def test_wrong_values(self):
        for value in NO_PRODUCTS:
            self.assert_raised(InvalidProduct, {"value": value}, has, value, None)
        for value in OTHERS + [0, ("a",), "a*", "1"]:
            self.assert_raised(InvalidText, {"value": value}, has, ("a",), value)


class Within(Case):
    def test_edges(self):
        for one, other, expected in [
                ((), (), True), ((), ("a",), True), (("a",), (), False), (("a*",), ("a",) * 12, False),
                (("a",) * 12, ("a*",), True), (("a", "b"), ("b", "a"), False), (("ab*",), ("a*", "b*"), False),
                (("a*", "b*", "a*"), ("ab*",), True), (("ab*",), ("abc*",), True), (("a*",), ("a", "a*"), True),
                (("a", "a"), ("a",), False), (("a*", "a"), ("a*",), True), (("a", "b*"), ("a*", "b"), False),
                (("x", "yz*"), ("xyz*",), True), (("a*", "b", "a*"), ("a*", "ab*"), True)]:
            self.assertIs(is_within(one, other), expected, (one, other))
        self.assertIs(is_within(other=("a",), one=()), True)

    def test_by_a_plain_reading(self):
        source = random.Random(2)
        for _ in range(1500):
            letters = source.choice(["a", "ab", "abc", "abcd"])
            one, other = some_product(source, letters, 5), some_product(source, letters, 5)
            self.assertIs(is_within(one, other), is_within_plain(one, other), (one, other))

    def test_by_texts(self):
        source = random.Random(3)
        texts = texts_over("ab", 9)
        for _ in range(150):
            one, other = some_product(source, "ab", 3), some_product(source, "ab", 3)
            expected = set(of_products([one], texts)) <= set(of_products([other], texts))
            self.assertIs(is_within(one, other), expected, (one, other))

    def test_wrong_values(self):
        for asked in [is_within, meet]:
            for value in NO_PRODUCTS:
                self.assert_raised(InvalidProduct, {"value": value}, asked, value, None)
                self.assert_raised(InvalidProduct, {"value": value}, asked, ("a",), value)
                self.assert_raised(InvalidProduct, {"value": value}, asked, ("a",) * 13, value)
            self.assert_raised(InvalidProduct, {"value": ["b"]}, asked, other=("A",), one=["b"])


class Reduced(Case):
    def test_edges(self):
        for pieces, expected in [
                ((), ()), (("a",), ("a",)), (("a", "a"), ("a", "a")), (("a", "a*"), ("a*",)), (("a*", "a"), ("a*",)),
                (("a*", "a*"), ("a*",)), (("a*", "ab*"), ("ab*",)), (("ab*", "a*"), ("ab*",)),
                (("a*", "b*"), ("a*", "b*")), (("a*", "b", "ab*"), ("ab*",)), (("ab*", "b", "a*", "a"), ("ab*",)),
                (("a", "b", "ab*"), ("ab*",)), (("b", "a*", "b"), ("b", "a*", "b")),
                (("ab*", "bc*", "b"), ("ab*", "bc*")), (("c", "a", "b", "ab*", "abc*"), ("abc*",)),
                (("a", "b*", "b", "a*", "b"), ("a", "b*", "a*", "b"))]:
            self.assertEqual(reduced(pieces), expected)
            self.assertEqual(reduced(product=expected), expected)

    def test_by_a_plain_reading(self):
        source = random.Random(4)
        for _ in range(1500):
            letters = source.choice(["a", "ab", "abc", "abcd"])
            pieces = some_product(source, letters, 8)
            found = reduced(pieces)
            self.assertTrue(is_reduced(found), found)
            self.assertTrue(is_within_plain(found, pieces) and is_within_plain(pieces, found), pieces)
            if is_reduced(pieces):
                self.assertEqual(found, pieces)

    def test_wrong_values(self):
        for value in NO_PRODUCTS:
            self.assert_raised(InvalidProduct, {"value": value}, reduced, value)


class Meet(Case):
    def test_edges(self):
        for one, other, expected in [
                ((), (), [()]), ((), ("a",), [()]), (("a",), ("b",), [()]), (("a*",), ("b*",), [()]),
                (("ab*",), ("bc*",), [("b*",)]), (("a", "b", "c"), ("abc*",), [("a", "b", "c")]),
                (("ab*", "c"), ("c", "ab*"), [("ab*",), ("c",)]), (("xy*",), ("x", "y"), [("x", "y")]),
                (("a", "a", "a"), ("a", "a"), [("a", "a")]), (("a", "a*"), ("a", "a", "b"), [("a", "a")]),
                (("a*", "b*"), ("b*", "a*"), [("a*",), ("b*",)]), (("ab*",), ("ab*",), [("ab*",)])]:
            self.assertEqual(meet(one, other), expected)
            self.assertEqual(meet(one=other, other=one), expected)

    def test_by_a_plain_reading(self):
        source = random.Random(5)
        for _ in range(250):
            letters = source.choice(["a", "ab", "abc"])
            one, other = some_product(source, letters, 6), some_product(source, letters, 6)
            found = meet(one, other)
            self.assert_kept(found)
            texts = texts_over(letters, 7 if len(letters) < 3 else 5)
            both = set(of_products([one], texts)) & set(of_products([other], texts))
            self.assertEqual(set(of_products(found, texts)), both)
            for pieces in found:
                self.assertTrue(is_within_plain(pieces, one) and is_within_plain(pieces, other))

    def test_many_letters(self):
        rising = tuple("abcdefghijkl")
        self.assertEqual(meet(rising, rising[::-1]), [(letter,) for letter in rising])
        falling = tuple("cbafedihglkj")
        self.assertEqual(meet(rising, falling[:9]), sorted(product("abc", "def", "ghi")))
        self.assert_too_many("products", 60, meet, rising, falling)

    def test_12_pieces(self):
        twelve = ("a",) * 12
        self.assertEqual(meet(twelve, twelve), [twelve])
        for one, other in [(twelve + ("a",), twelve), ((), ("a*",) * 13), (("a",) * 13, ("b",) * 40)]:
            self.assert_too_many("pieces", 12, meet, one, other)
            self.assert_too_many("pieces", 12, meet, other, one)
        # The pieces that are passed count, not those that a reduced product would have.
        self.assert_too_many("pieces", 12, meet, ("a*",) * 13, ("a",))

    def test_60_products(self):
        for one, other in [SIXTY, SIXTY[::-1]]:
            found = meet(one, other)
            self.assertEqual(len(found), 60)
            self.assert_kept(found)

    def test_more_products(self):
        for one, other in [SIXTY_ONE, SIXTY_ONE[::-1]]:
            self.assert_too_many("products", 60, meet, one, other)


class Unrolled(Case):
    def test_edges(self):
        for pieces, number, expected in [
                ((), 5, ""), (("a",), 0, "a"), (("ab*",), 0, ""), (("ab*",), 1, "ab"), (("abc*", "d", "x*"), 2, "abcabcdxx"),
                (("a", "b"), 10 ** 29, "ab"), ((), 10 ** 29, "")]:
            self.assertEqual(unrolled(pieces, number), expected)
            self.assertEqual(unrolled(number=number, product=pieces), expected)

    def test_by_a_plain_reading(self):
        for pieces in product(["a", "b*", "ab*"], repeat=3):
            for number in range(4):
                found = unrolled(pieces, number)
                self.assertTrue(expression(pieces).fullmatch(found))
                stars = sum([len(piece) - 1 for piece in pieces])
                self.assertEqual(len(found), stars * number + pieces.count("a"))

    def test_8000_letters(self):
        self.assertEqual(unrolled(("ab*",), 4000), "ab" * 4000)
        self.assertEqual(unrolled(("abc*", "a", "b"), 2666), "abc" * 2666 + "ab")
        for pieces, number in [(("ab*", "c"), 4000), (("ab*",), 4001), (("a*",), 10 ** 29), (("a", "b") * 4000 + ("a",), 0),
                               (("abc*", "a", "b", "c"), 2666)]:
            self.assert_too_many("letters", 8000, unrolled, pieces, number)

    def test_wrong_values(self):
        for value in NO_PRODUCTS:
            self.assert_raised(InvalidProduct, {"value": value}, unrolled, value, -1)
        for value in OTHERS + ["", "1", (), (1,)]:
            self.assert_raised(InvalidNumber, {"value": value}, unrolled, ("a", "b") * 4001, value)
