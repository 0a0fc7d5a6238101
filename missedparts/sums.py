"""Sums of products: the closed sets of texts."""

from missedparts.basics import are_letters, is_over
from missedparts.codes import (
    behind_letter, coded, goal_in, goes_into, goes_into_some, has_text, is_closed_within, kept_codes, kept_from,
    letter_code, letter_codes, met_codes, reduced_codes, told, worked_out,
)
from missedparts.errors import InvalidLetters, InvalidProducts, InvalidSum, InvalidTexts, TooMany
from missedparts.machines import Machine, met_from, need_same_letters, need_text
from missedparts.products import MOST_PIECES, is_product

MOST_OUT = 200
MOST_IN_OF = 60
MOST_IN_WITHOUT = 8


class Sum:
    """The texts of some products over the letters, of which those are kept that are within no other one."""

    MOST_PRODUCTS = 60

    def __init__(self, letters, products):
        _need_letters(letters)
        _need_products(letters, products)
        kept = kept_codes([reduced_codes(coded(product)) for product in products], Sum.MOST_PRODUCTS)
        if kept is None:
            raise TooMany("products", Sum.MOST_PRODUCTS)
        self._letters = letters
        self._products = sorted([told(codes) for codes in kept])
        self._codes = tuple(sorted(kept))

    @staticmethod
    def whole(letters):
        """The sum of all texts over the letters."""
        _need_letters(letters)
        return Sum(letters, [(letters + "*",)])

    @staticmethod
    def of(letters, texts):
        """The sum of the parts of some texts."""
        _need_letters(letters)
        _need_texts(letters, texts)
        _need_short(texts, MOST_IN_OF)
        return Sum(letters, [tuple(text) for text in texts])

    @staticmethod
    def without(letters, texts):
        """The sum of the texts of which none of some texts is a part."""
        _need_letters(letters)
        _need_texts(letters, texts)
        if len(texts) > MOST_IN_WITHOUT:
            raise TooMany("texts", MOST_IN_WITHOUT)
        _need_short(texts, MOST_IN_WITHOUT)
        return sum_of(letters, _kept_without(letters, texts))

    @property
    def letters(self):
        """The letters of its texts."""
        return self._letters

    def products(self):
        """The sorted list of the products that are kept."""
        return list(self._products)

    def codes(self):
        """The products that are kept as a closed set of codes."""
        return self._codes

    def is_within(self, other):
        """Whether all its texts are texts of the other one."""
        _need_sum_with(self, other)
        return is_closed_within(self._codes, other.codes())

    def beyond(self, other):
        """The least text of it that is none of the other one; None if there is none."""
        _need_sum_with(self, other)
        theirs = other.codes()
        mine = _apart(self._codes, theirs)
        met = {theirs: [mine]}
        row = [("", mine, theirs)] if mine else []
        while row:
            longer = []
            for text, mine, theirs in row:
                if not theirs:
                    return text
                for letter in self._letters:
                    left = behind_letter(theirs, letter_code(letter))
                    goal = _apart(behind_letter(mine, letter_code(letter)), left)
                    # What may follow here may follow a lesser text as well, if that one leaves no less of mine.
                    before = met.setdefault(left, [])
                    if goal and not any([is_closed_within(goal, each) for each in before]):
                        before.append(goal)
                        longer.append((text + letter, goal, left))
            row = longer
        return None

    def behind(self, text):
        """The sum of the texts that make a text of it if they stand behind this text."""
        need_text(text, self._letters)
        letters = letter_codes(text)
        found = []
        for codes in self._codes:
            at = _position_behind(codes, letters)
            if at is not None:
                found.append(told(codes[at:]))
        return Sum(self._letters, found)

    def mirrored(self):
        """The sum of its texts, read from the end."""
        return Sum(self._letters, [product[::-1] for product in self._products])

    def least_out(self):
        """The sorted list of the least texts that are none of it."""
        letters = self._letters
        codes = letter_codes(letters)

        def goals_of(closed):
            return [behind_letter(closed, code) for code in codes] if closed else []

        def answer_of(closed, goals, answers):
            return _out_of(closed, list(zip(letters, goals)), answers)

        found = worked_out(self._codes, goals_of, answer_of)
        if found is None:
            raise TooMany("texts", MOST_OUT)
        return sorted(found, key=lambda text: (len(text), text))

    def machine(self):
        """The least machine that takes just its texts."""
        codes = letter_codes(self._letters)

        def goals_of(closed):
            return [behind_letter(closed, code) for code in codes]

        sets, rows = met_from(self._codes, goals_of, Machine.MOST_PLACES)
        return Machine(self._letters, rows, [closed != () for closed in sets])

    def __len__(self):
        return len(self._products)

    def __contains__(self, value):
        return is_over(value, self._letters) and has_text(self._codes, letter_codes(value))

    def __eq__(self, other):
        return isinstance(other, Sum) and self._letters == other.letters and self._codes == other.codes()

    def __repr__(self):
        return f"Sum({self._letters!r}, {self._products!r})"

    def __and__(self, other):
        _need_sum_with(self, other)
        if any([len(codes) > MOST_PIECES for codes in self._codes + other.codes()]):
            raise TooMany("pieces", MOST_PIECES)
        return sum_of(self._letters, met_codes(
            self._codes, other.codes(), letter_codes(self._letters), Sum.MOST_PRODUCTS))

    def __or__(self, other):
        _need_sum_with(self, other)
        return Sum(self._letters, self._products + other.products())


def sum_of(letters, kept):
    """The sum of the products with these codes; TooMany if they are None."""
    if kept is None:
        raise TooMany("products", Sum.MOST_PRODUCTS)
    return Sum(letters, [told(codes) for codes in kept])


def _need_letters(value):
    """Raise InvalidLetters unless the value is one to three unlike small letters, rising."""
    if not are_letters(value):
        raise InvalidLetters(value)


def _need_products(letters, value):
    """Raise InvalidProducts unless the value is a list of products over the letters."""
    if not isinstance(value, (list, tuple)):
        raise InvalidProducts(None)
    for position, product in enumerate(value):
        if not is_product_over(product, letters):
            raise InvalidProducts(position)


def is_product_over(value, letters):
    """Whether any value is a product with none but these letters."""
    return is_product(value) and all([is_over(piece.rstrip("*"), letters) for piece in value])


def _need_texts(letters, value):
    """Raise InvalidTexts unless the value is a list of texts over the letters."""
    if not isinstance(value, (list, tuple)):
        raise InvalidTexts(None)
    for position, text in enumerate(value):
        if not is_over(text, letters):
            raise InvalidTexts(position)


def _need_short(texts, most):
    """Raise TooMany if one of the texts has more letters."""
    if any([len(text) > most for text in texts]):
        raise TooMany("letters", most)


def _need_sum_with(one, other):
    """Raise InvalidSum unless the other one is a sum, then OtherLetters unless both have the same letters."""
    if not isinstance(other, Sum):
        raise InvalidSum(other)
    need_same_letters(one, other)


def _position_behind(codes, text):
    """The position in a product behind a text, read as far ahead as can be; None if the text is none of it."""
    at = 0
    for code in text:
        at = goal_in(codes, at, code)
        if at is None:
            return None
    return at


def _apart(mine, theirs):
    """Those products of the one closed set that are not within the other one."""
    return tuple([codes for codes in mine if not goes_into_some(codes, theirs)])


def _out_of(closed, goals, answers):
    """The least out texts of a closed set, from those of the sets behind each letter; None if there are too many.

    A text behind a letter makes a least one with this letter if it is itself still a text of the closed set. That a
    set behind a letter never has more of them than the set itself lets this stop early.
    """
    if not closed:
        return [""]
    found = []
    for letter, goal in goals:
        if goal != closed:
            for text in answers[goal]:
                if has_text(closed, letter_codes(text)):
                    found.append(letter + text)
    return None if len(found) > MOST_OUT else found


def _kept_without(letters, texts):
    """The kept products of the texts of which none of some texts is a part; None if they are too many."""
    codes = letter_codes(letters)

    def goals_of(state):
        return [_lacking_behind(state, code) for code in codes]

    start = _least_lacking([tuple(letter_codes(text)) for text in texts])
    return [] if start is None else kept_from(start, codes, goals_of, Sum.MOST_PRODUCTS)


def _lacking_behind(texts, code):
    """What may not be a part of what stands behind a letter; None if nothing may stand there."""
    return _least_lacking([text[1:] if text[0] == code else text for text in texts])


def _least_lacking(texts):
    """Those of the texts, as codes, of which no other one is a part, sorted; None if the empty one is among them."""
    least = []
    for text in sorted(texts, key=len):
        if not any([goes_into(other, text) for other in least]):
            least.append(text)
    return None if () in least else tuple(sorted(least))
