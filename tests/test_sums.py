"""Sums: examples, edges, plain readings, wrong inputs."""

import random

from missedparts.errors import InvalidLetters, InvalidProducts, InvalidSum, InvalidText, InvalidTexts, OtherLetters
from missedparts.machines import Machine
from missedparts.sums import Sum
from tests.plain import (
    FEW, OTHERS, SINGLE, Case, is_part_plain, of_products, place_of, some_product, texts_over,
)
from tests.test_products import NO_PRODUCTS

EXAMPLES = """
>>> from missedparts.products import has, is_within, meet, reduced, unrolled
>>> from missedparts.sums import Sum
>>> few = Sum.without("ab", ["aa"])
>>> [few, few.least_out(), "bab" in few, unrolled(("ab*", "a"), 2), few.beyond(Sum("ab", [("a", "b*"), ("b*",)]))]
[Sum('ab', [('b*', 'a', 'b*')]), ['aa'], True, 'ababa', 'ba']
>>> [few & Sum.of("ab", ["aba"]), Sum("ab", []).least_out(), len(few | Sum.whole("ab")), few.behind("a")]
[Sum('ab', [('a', 'b'), ('b', 'a')]), [''], 1, Sum('ab', [('b*',)])]
"""
WHOLE = Sum.whole("ab")
EMPTY = Sum("ab", [])
# Two texts of whose parts there are 200 and 201 least out texts; texts without which there are 60 and 61 products.
OUT_200 = "abbaaabbbbabbabaaabaabab"
OUT_201 = "bbbaabababababbbababa"
WITHOUT_60 = ["bbbcccca", "ccbcbca", "bcbacacb", "abaccca", "caba"]
WITHOUT_61 = ["acbabaa", "cbcccbb", "bcacbab", "bbbbbcb", "accbbcaa", "ccab", "aacb", "bcbbc"]


# Two products that have 60 products in common, and two that have 61.
MEET_60 = [
    ("a*", "bc*", "ac*", "bc*", "ac*", "b*", "a*"),
    ("c*", "a", "b*", "a", "b", "a", "c", "ab*", "bc*", "a", "b*"),
]
MEET_61 = [
    ("a*", "bc*", "ac*", "bc*", "ac*", "b", "a*"),
    ("c*", "ab*", "c*", "a", "b", "a", "c", "ab*", "bc*", "a", "b*"),
]


def some_sum(source, letters, most=4):
    products = [some_product(source, letters, most) for _ in range(source.randint(0, 4))]
    return Sum(letters, products), products


def many_words(letters, long):
    """The texts of so many letters."""
    return [text for text in texts_over(letters, long) if len(text) == long]


class Examples(Case):
    def test_as_they_stand_in_the_document(self):
        self.assert_examples(EXAMPLES, 5)


class Made(Case):
    def test_kept(self):
        for products, expected in [
                ([], []), ([()], [()]), ([("a",), ()], [("a",)]), ([("b",), ("a",)], [("a",), ("b",)]),
                ([("ab*",), ("a", "a*")], [("ab*",)]), ([("a*", "a")] * 3, [("a*",)]),
                ([("ab*", "a"), ("b", "a*")], [("ab*",)]), ([("b", "a"), ("b", "a*"), ("a*",)], [("b", "a*")]),
                ([("a", "b*"), ("b*", "a"), ("a",)], [("a", "b*"), ("b*", "a")])]:
            self.assertEqual(Sum("ab", products).products(), expected)
            self.assertEqual(Sum(products=tuple(products), letters="ab").products(), expected)
            self.assertEqual(len(Sum("ab", products)), len(expected))
            self.assertEqual(repr(Sum("ab", products)), f"Sum('ab', {expected})")
            self.assertEqual(eval(repr(Sum("ab", products))), Sum("ab", products))

    def test_by_a_plain_reading(self):
        source = random.Random(1)
        for _ in range(300):
            letters = source.choice(["a", "ab", "abc", "xyz"])
            made, products = some_sum(source, letters)
            texts = texts_over(letters, 6 if len(letters) < 3 else 4)
            self.assert_kept(made.products())
            self.assertEqual([text for text in texts if text in made], of_products(products, texts))
            self.assertEqual(made.letters, letters)
            # However it is told, the sum of the same texts is the same one.
            source.shuffle(products)
            parts = [pieces[:at] + pieces[at + 1:] for pieces in products for at in range(len(pieces))]
            self.assertEqual(Sum(letters, products + parts + made.products()), made)

    def test_what_is_given_is_copied(self):
        products = [("a",)]
        made = Sum("ab", products)
        products.append(("b",))
        made.products().append(("b",))
        self.assertEqual(made.products(), [("a",)])

    def test_equal(self):
        self.assertTrue(FEW == Sum.without("ab", ["aa"]) and not FEW != Sum.without("ab", ["aa"]))
        for other in OTHERS[:-1] + [EMPTY, WHOLE, Sum("abc", [("b*", "a", "b*")]), Sum("bc", []), FEW.products()]:
            self.assertFalse(FEW == other)
            self.assertTrue(FEW != other)
        self.assertFalse(EMPTY == Sum("abc", []))
        self.assertFalse(EMPTY == Sum("ab", [()]))

    def test_in_takes_any_value(self):
        for value in OTHERS + [0, 1, "c", "abc", (), ("a",)]:
            self.assertIs(value in WHOLE, False)
        for text in ["", "a", "ba", "ab" * 4500]:
            self.assertIs(text in WHOLE, True)
            self.assertIs(text in EMPTY, False)
            self.assertIs(text in Sum("ab", [()]), text == "")

    def test_60_products(self):
        self.assertEqual((Sum.MOST_PRODUCTS, FEW.MOST_PRODUCTS), (60, 60))
        words = [tuple(text) for text in many_words("abc", 4)]
        self.assertEqual(Sum("abc", words[:60]).products(), sorted(words[:60]))
        self.assert_too_many("products", 60, Sum, "abc", words[:61])
        self.assertEqual(len(Sum("abc", words + [("abc*",)])), 1)
        self.assertEqual(len(Sum("abc", words[:60] * 3 + [word[:3] for word in words])), 60)

    def test_wrong_letters(self):
        for value in OTHERS + ["", "aa", "ba", "abcd", 0, ("a",)]:
            self.assert_raised(InvalidLetters, {"value": value}, Sum, value, None)
            self.assert_raised(InvalidLetters, {"value": value}, Sum.whole, value)
            self.assert_raised(InvalidLetters, {"value": value}, Sum.of, value, None)
            self.assert_raised(InvalidLetters, {"value": value}, Sum.without, value, None)

    def test_wrong_products(self):
        for value in [None, True, 0, "", "ab", {}, {"a": 1}, {("a",)}, b"", range(2), FEW, SINGLE, len]:
            self.assert_raised(InvalidProducts, {"position": None}, Sum, "ab", value)
        for value in NO_PRODUCTS + [("c",), ("a", "ac*"), ("abc*",), FEW]:
            self.assert_raised(InvalidProducts, {"position": 1}, Sum, "ab", [("a",), value, value])
            self.assert_raised(InvalidProducts, {"position": 0}, Sum, "ab", (value,))
        # A single product is a tuple, but no list of products.
        self.assert_raised(InvalidProducts, {"position": 0}, Sum, "ab", ("a", "b"))
        words = [tuple(text) for text in many_words("abc", 4)]
        self.assert_raised(InvalidProducts, {"position": 81}, Sum, "abc", words + [("d",)])


class Joined(Case):
    def test_by_a_plain_reading(self):
        source = random.Random(2)
        for _ in range(250):
            letters = source.choice(["a", "ab", "abc"])
            one, products = some_sum(source, letters)
            other, other_products = some_sum(source, letters)
            texts = texts_over(letters, 7 if len(letters) < 3 else 5)
            mine, theirs = of_products(products, texts), of_products(other_products, texts)
            for joined, expected in [(one & other, set(mine) & set(theirs)), (one | other, set(mine) | set(theirs))]:
                self.assert_kept(joined.products())
                self.assertEqual({text for text in texts if text in joined}, expected)
                self.assertEqual(joined.letters, letters)
            beyond = [text for text in mine if text not in theirs]
            found = one.beyond(other)
            self.assertIs(one.is_within(other), found is None)
            if beyond:
                self.assertEqual(found, beyond[0])
            else:
                self.assertTrue(found is None or found in one and found not in other and len(found) > len(texts[-1]))

    def test_empty_and_whole(self):
        nothing = Sum("ab", [()])
        for one, other, both, some in [
                (EMPTY, EMPTY, EMPTY, EMPTY), (EMPTY, WHOLE, EMPTY, WHOLE), (WHOLE, FEW, FEW, WHOLE),
                (nothing, EMPTY, EMPTY, nothing), (nothing, FEW, nothing, FEW), (FEW, FEW, FEW, FEW)]:
            self.assertEqual((one & other, other & one), (both, both))
            self.assertEqual((one | other, other | one), (some, some))
        for one, other, beyond in [
                (EMPTY, EMPTY, None), (nothing, EMPTY, ""), (EMPTY, nothing, None), (WHOLE, EMPTY, ""),
                (WHOLE, nothing, "a"), (WHOLE, FEW, "aa"), (FEW, WHOLE, None), (FEW, FEW, None)]:
            self.assertEqual(one.beyond(other), beyond)
            self.assertIs(one.is_within(other), beyond is None)
            self.assertEqual(one.beyond(other=other), beyond)
            self.assertIs(one.is_within(other=other), beyond is None)

    def test_far_beyond(self):
        text = "abbabaab" * 7
        shorter = [text[:at] + text[at + 1:] for at in range(len(text))]
        self.assertEqual(Sum.of("ab", [text]).beyond(Sum.of("ab", shorter)), text)
        self.assertEqual(Sum("ab", [("a*",)]).beyond(Sum.of("ab", ["a" * 60])), "a" * 61)

    def test_12_pieces(self):
        twelve = Sum("ab", [("a", "b") * 6])
        more = Sum("ab", [("a", "b") * 6 + ("a",)])
        self.assertEqual(twelve & twelve, twelve)
        for one, other in [(more, twelve), (more, EMPTY), (more, more), (Sum("ab", [("b",) * 13, ("a*",)]), FEW)]:
            self.assert_too_many("pieces", 12, lambda: one & other)
            self.assert_too_many("pieces", 12, lambda: other & one)
        self.assertEqual((more | twelve, twelve | more), (more, more))
        # What is reduced has fewer.
        self.assertEqual(Sum("ab", [("a*", "a") * 7]) & WHOLE, Sum("ab", [("a*",)]))

    def test_60_products(self):
        words = many_words("abc", 4)
        for joined in [lambda one, other: one | other, lambda one, other: other | one]:
            self.assertEqual(joined(Sum.of("abc", words[:40]), Sum.of("abc", words[20:60])), Sum.of("abc", words[:60]))
            self.assert_too_many("products", 60, joined, Sum.of("abc", words[:40]), Sum.of("abc", words[21:61]))
            self.assertEqual(joined(Sum.of("abc", words[:60]), Sum.whole("abc")), Sum.whole("abc"))

    def test_meets_of_60_products(self):
        one, other = Sum("abc", MEET_60[:1]), Sum("abc", MEET_60[1:])
        for both in [one & other, other & one]:
            self.assertEqual(len(both), 60)
            self.assert_kept(both.products())
            for text in texts_over("abc", 7):
                self.assertEqual(text in both, text in one and text in other)

    def test_meets_of_more_products(self):
        stars = [("ab*", "bc*", "ac*") * 4, ("ac*", "bc*", "ab*") * 4]
        for products in [MEET_61, stars]:
            one, other = Sum("abc", products[:1]), Sum("abc", products[1:])
            self.assert_too_many("products", 60, lambda: one & other)
            self.assert_too_many("products", 60, lambda: other & one)
            # What two of the products have in common is too much, and yet within one of them.
            self.assertEqual((one | other) & (other | one), one | other)
            self.assertEqual(one & (one | other), one)
            self.assertEqual((one | other) & (one | Sum("abc", [("c",)])), one | (other & Sum("abc", [("c",)])))

    def test_many_products(self):
        source = random.Random(3)
        words = ["".join([source.choice("abc") for _ in range(8)]) for _ in range(50)]
        one = Sum.of("abc", words)
        other = Sum.of("abc", words[10:] + ["".join([source.choice("abc") for _ in range(8)]) for _ in range(10)])
        both = one | other
        for joined in [one, other]:
            self.assertEqual(joined & both, joined)
            self.assertTrue(joined.is_within(both))
            self.assertEqual(joined | both, both)

    def test_wrong_values(self):
        for value in OTHERS + [0, 1, "", (), [("a",)]]:
            if not isinstance(value, Sum):
                for asked in [lambda other: FEW & other, lambda other: FEW | other, FEW.is_within, FEW.beyond]:
                    self.assert_raised(InvalidSum, {"value": value}, asked, value)

    def test_other_letters(self):
        more = Sum("abc", [("a", "b") * 7])
        for asked in [lambda other: FEW & other, lambda other: FEW | other, FEW.is_within, FEW.beyond]:
            for other in [more, Sum("abc", []), Sum("abc", [("b*", "a", "b*")])]:
                self.assert_raised(OtherLetters, {"one": "ab", "other": "abc"}, asked, other)
        self.assert_raised(OtherLetters, {"one": "abc", "other": "ab"}, lambda: more & FEW)


class Asked(Case):
    def test_behind_and_mirrored_by_a_plain_reading(self):
        source = random.Random(4)
        for _ in range(250):
            letters = source.choice(["a", "ab", "abc"])
            made, products = some_sum(source, letters)
            texts = texts_over(letters, 6 if len(letters) < 3 else 4)
            known = set(of_products(products, texts))
            mirrored = made.mirrored()
            self.assert_kept(mirrored.products())
            self.assertEqual([text for text in texts if text in mirrored], [text for text in texts if text[::-1] in known])
            self.assertEqual(mirrored.mirrored(), made)
            begin = source.choice(texts_over(letters, 3))
            behind = made.behind(begin)
            self.assert_kept(behind.products())
            for text in texts:
                if len(begin + text) <= len(texts[-1]):
                    self.assertIs(text in behind, begin + text in known)

    def test_behind_edges(self):
        self.assertEqual(FEW.behind(""), FEW)
        self.assertEqual(FEW.behind("b" * 9000), FEW)
        self.assertEqual(FEW.behind("ab" * 2), EMPTY)
        self.assertEqual(WHOLE.behind(text="ab" * 4500), WHOLE)
        self.assertEqual(EMPTY.behind("a"), EMPTY)
        self.assertEqual(Sum.of("ab", ["ab", "ba"]).behind("a"), Sum.of("ab", ["b"]))

    def test_wrong_texts(self):
        for value in OTHERS + [0, 1, "c", "abc", ("a",), ()]:
            self.assert_raised(InvalidText, {"value": value}, FEW.behind, value)

    def test_least_out_by_a_plain_reading(self):
        source = random.Random(5)
        for _ in range(250):
            letters = source.choice(["a", "ab", "abc"])
            made, products = some_sum(source, letters)
            texts = texts_over(letters, 7 if len(letters) < 3 else 5)
            known = set(of_products(products, texts))
            found = made.least_out()
            expected = [text for text in texts if text not in known
                        and all(text[:at] + text[at + 1:] in known for at in range(len(text)))]
            self.assertEqual([text for text in found if len(text) <= len(texts[-1])], expected)
            self.assertEqual(found, sorted(found, key=place_of))
            for text in found:
                self.assertNotIn(text, made)
                for at in range(len(text)):
                    self.assertIn(text[:at] + text[at + 1:], made)

    def test_least_out_edges(self):
        self.assertEqual(EMPTY.least_out(), [""])
        self.assertEqual(WHOLE.least_out(), [])
        self.assertEqual(Sum("abc", [()]).least_out(), ["a", "b", "c"])
        self.assertEqual(Sum("a", [("a",) * 60]).least_out(), ["a" * 61])
        self.assertEqual(Sum("ab", [("a*",), ("b*",)]).least_out(), ["ab", "ba"])

    def test_200_texts(self):
        for text, many in [(OUT_200, 200), (OUT_201, 201)]:
            made = Sum.of("ab", [text])
            if many == 200:
                self.assertEqual(len(made.least_out()), 200)
            else:
                self.assert_too_many("texts", 200, made.least_out)
        source = random.Random(6)
        for letters in ["ab", "abc"]:
            words = ["".join([source.choice(letters) for _ in range(60)]) for _ in range(60)]
            for many in [1, 60]:
                self.assert_too_many("texts", 200, Sum.of(letters, words[:many]).least_out)

    def test_machine_by_a_plain_reading(self):
        source = random.Random(7)
        for _ in range(150):
            letters = source.choice(["a", "ab", "abc"])
            made, products = some_sum(source, letters, 3)
            machine = made.machine()
            texts = texts_over(letters, 6 if len(letters) < 3 else 5)
            self.assertEqual([text for text in texts if machine.takes(text)], of_products(products, texts))
            self.assertEqual(machine, machine.least())

    def test_machine_edges(self):
        self.assertEqual(EMPTY.machine(), Machine("ab", [[0, 0]], [False]))
        self.assertEqual(WHOLE.machine(), Machine("ab", [[0, 0]], [True]))
        self.assertEqual(Sum("ab", [()]).machine(), Machine("ab", [[1, 1], [1, 1]], [True, False]))
        self.assertEqual(FEW.machine(), Machine("ab", [[1, 0], [2, 1], [2, 2]], [True, True, False]))

    def test_machine_of_40_places(self):
        self.assertEqual(len(Sum.of("ab", ["a" * 38]).machine()), 40)
        self.assertEqual(len(Sum.of("a", ["a" * 38]).machine()), 40)
        self.assert_too_many("places", 40, Sum.of("ab", ["a" * 39]).machine)
        source = random.Random(8)
        words = ["".join([source.choice("abc") for _ in range(60)]) for _ in range(60)]
        self.assert_too_many("places", 40, Sum.of("abc", words).machine)


class OfTexts(Case):
    def test_whole(self):
        for letters in ["a", "az", "abc"]:
            self.assertEqual(Sum.whole(letters), Sum(letters, [(letters + "*",)]))
        self.assertEqual(Sum.whole(letters="ab"), WHOLE)

    def test_of(self):
        for texts, expected in [
                ([], []), ([""], [()]), (["a", "", "a"], [("a",)]), (["ab", "b", "ba"], [("a", "b"), ("b", "a")]),
                (["aa", "aba"], [("a", "b", "a")])]:
            self.assertEqual(Sum.of("ab", texts), Sum("ab", expected))
            self.assertEqual(Sum.of(texts=tuple(texts), letters="ab"), Sum("ab", expected))

    def test_of_many_texts(self):
        words = many_words("abc", 4)
        self.assertEqual(len(Sum.of("abc", words[:60])), 60)
        self.assertEqual(len(Sum.of("abc", texts_over("abc", 3) + words[:60])), 60)
        self.assert_too_many("products", 60, Sum.of, "abc", words[:61])
        self.assertEqual(Sum.of("ab", ["ab" * 30] * 1000), Sum("ab", [("a", "b") * 30]))

    def test_of_60_letters(self):
        self.assertEqual(len(Sum.of("ab", ["a" * 60, "b" * 60])), 2)
        words = many_words("abc", 4)
        for texts in [["a" * 61], ["a", "b" * 61], words + ["a" * 61], ["a" * 9000]]:
            self.assert_too_many("letters", 60, Sum.of, "abc", texts)

    def test_without_by_a_plain_reading(self):
        source = random.Random(9)
        for _ in range(250):
            letters = source.choice(["a", "ab", "abc"])
            lacking = ["".join([source.choice(letters) for _ in range(source.choice([1, 2, 2, 3, 3, 4]))])
                       for _ in range(source.randint(0, 4))]
            made = Sum.without(letters, lacking)
            self.assert_kept(made.products())
            texts = texts_over(letters, 7 if len(letters) < 3 else 5)
            self.assertEqual([text for text in texts if text in made], [
                text for text in texts if not any(is_part_plain(part, text) for part in lacking)])
            least = [text for text in set(lacking) if not any(
                other != text and is_part_plain(other, text) for other in lacking)]
            self.assertEqual(made.least_out(), sorted(least, key=place_of))

    def test_without_edges(self):
        for texts, expected in [
                ([], [("ab*",)]), ([""], []), (["", "a"], []), (["a"], [("b*",)]), (["a", "b"], [()]),
                (["ab"], [("b*", "a*")]), (["aa", "a", "aba"], [("b*",)]), (["ab", "ba"], [("a*",), ("b*",)])]:
            self.assertEqual(Sum.without("ab", texts), Sum("ab", expected))
            self.assertEqual(Sum.without(texts=tuple(texts), letters="ab"), Sum("ab", expected))
        self.assertEqual(Sum.without("a", ["aaa"]), Sum("a", [("a", "a")]))
        self.assertEqual(Sum.without("abc", ["abc"]), Sum("abc", [("bc*", "a", "ac*", "b", "ab*")]))

    def test_8_texts_of_8_letters(self):
        eight = ["bbabbbbb", "baabaaba", "baabbabb", "babbbaaa", "babbabaa", "aaabaabb", "abbababb", "abbabaaa"]
        made = Sum.without("ab", eight)
        self.assertEqual(len(made), 43)
        self.assert_kept(made.products())
        self.assertEqual(made.least_out(), sorted(eight))
        self.assertEqual(Sum.without("ab", ["a"] * 8), Sum("ab", [("b*",)]))
        self.assertEqual(Sum.without("ab", ["a" * 8]), Sum("ab", [("b*", "a") * 7 + ("b*",)]))

    def test_more_texts_and_letters(self):
        for texts in [["a"] * 9, ["", "a"] * 9, ["a" * 9] * 9]:
            self.assert_too_many("texts", 8, Sum.without, "ab", texts)
        for texts in [["a" * 9], ["", "a" * 9], ["a", "b" * 9000]]:
            self.assert_too_many("letters", 8, Sum.without, "ab", texts)

    def test_without_60_products(self):
        made = Sum.without("abc", WITHOUT_60)
        self.assertEqual(len(made), 60)
        self.assert_kept(made.products())
        self.assertEqual(made.least_out(), sorted(WITHOUT_60, key=place_of))
        self.assert_too_many("products", 60, Sum.without, "abc", WITHOUT_61)

    def test_without_is_the_meet_of_all(self):
        both = Sum.whole("abc")
        for text in ["abca", "bcb", "cca"]:
            both = both & Sum.without("abc", [text])
        self.assertEqual(Sum.without("abc", ["abca", "bcb", "cca"]), both)

    def test_wrong_texts(self):
        for asked in [Sum.of, Sum.without]:
            for value in [None, True, 0, "", "ab", {}, {"a": 1}, {"a"}, b"", range(2), FEW, SINGLE, len]:
                self.assert_raised(InvalidTexts, {"position": None}, asked, "ab", value)
            for value in OTHERS + [0, 1, "c", "abc", ("a",), ()]:
                self.assert_raised(InvalidTexts, {"position": 1}, asked, "ab", ["a", value, value])
                self.assert_raised(InvalidTexts, {"position": 0}, asked, "ab", (value,))
            # Ahead of texts that are too many or too long.
            self.assert_raised(InvalidTexts, {"position": 9}, asked, "ab", ["a" * 100] * 9 + ["c"])
