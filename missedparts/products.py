"""Products of pieces: what their texts are, and which of them two products have in common."""

from missedparts.basics import SMALL_LETTERS, are_letters, is_count, is_text
from missedparts.codes import coded, goes_into, letter_code, letter_codes, met_codes, reduced_codes, told
from missedparts.errors import InvalidNumber, InvalidProduct, InvalidText, TooMany

MOST_PIECES = 12
MOST_MET = 60
MOST_UNROLLED = 8000


def is_product(value):
    """Whether any value is a tuple of pieces."""
    return isinstance(value, tuple) and all([_is_piece(piece) for piece in value])


def _is_piece(value):
    if not isinstance(value, str):
        return False
    if value.endswith("*"):
        return are_letters(value[:-1])
    return len(value) == 1 and value in SMALL_LETTERS


def has(product, text):
    """Whether the text is one of the texts of the product."""
    _need_product(product)
    if not is_text(text):
        raise InvalidText(text)
    return goes_into(letter_codes(text), coded(product))


def is_within(one, other):
    """Whether all texts of one product are texts of the other one."""
    _need_product(one)
    _need_product(other)
    return goes_into(coded(one), coded(other))


def reduced(product):
    """The reduced product with the same texts."""
    _need_product(product)
    return told(reduced_codes(coded(product)))


def meet(one, other):
    """The sorted list of the kept products of the texts that both products have."""
    _need_product(one)
    _need_product(other)
    if len(one) > MOST_PIECES or len(other) > MOST_PIECES:
        raise TooMany("pieces", MOST_PIECES)
    mine = reduced_codes(coded(one))
    theirs = reduced_codes(coded(other))
    found = met_codes((mine,), (theirs,), _letters_in(one), MOST_MET)
    if found is None:
        raise TooMany("products", MOST_MET)
    return sorted([told(codes) for codes in found])


def unrolled(product, number):
    """The text with each letter of the product, and the letters of each star, rising, so often behind one another."""
    _need_product(product)
    if not is_count(number):
        raise InvalidNumber(number)
    # The length is known ahead: nobody can build a text with so many letters as the number may tell.
    long = sum([number * (len(piece) - 1) if piece.endswith("*") else 1 for piece in product])
    if long > MOST_UNROLLED:
        raise TooMany("letters", MOST_UNROLLED)
    return "".join([piece[:-1] * number if piece.endswith("*") else piece for piece in product])


def _letters_in(product):
    """The letters of the pieces, as codes."""
    return [letter_code(letter) for letter in SMALL_LETTERS if any([letter in piece for piece in product])]


def _need_product(value):
    """Raise InvalidProduct unless the value is a product."""
    if not is_product(value):
        raise InvalidProduct(value)
