"""Machines and sums as written texts, and how these are read."""

from missedparts.basics import are_letters
from missedparts.errors import InvalidRow
from missedparts.machines import Machine, first_texts
from missedparts.products import is_within, reduced
from missedparts.sums import Sum, is_product_over


def text_of(entry):
    """The text of a machine or a sum."""
    if isinstance(entry, Sum):
        lines = [f"sum {entry.letters}"] + [" ".join(("product",) + product) for product in entry.products()]
    else:
        lines = [f"letters {entry.letters}"]
        for place, (kind, goals) in enumerate(zip(entry.kinds(), entry.rows())):
            word = "yes" if kind else "no"
            lines.append(" ".join([word, str(place), "to"] + [str(goal) for goal in goals]))
    return "".join([line + "\n" for line in lines])


def bytes_of(entry):
    """The text of a machine or a sum as bytes."""
    return text_of(entry).encode()


def read_machine(written):
    """The machine with just this text."""
    lines = _lines_of(written)
    letters = _letters_in(lines[0], "letters")
    if len(lines) == 1:
        raise InvalidRow(2)
    rows, kinds = [], []
    for row, line in enumerate(lines[1:], 2):
        kind, goals = _place_in(line, row - 2, len(letters))
        if goals is None:
            raise InvalidRow(row)
        kinds.append(kind)
        rows.append(goals)
    for place, goals in enumerate(rows):
        if max(goals) >= len(rows):
            raise InvalidRow(place + 2)
    met = first_texts(letters, rows, 0)
    for place in range(len(rows)):
        if place not in met:
            raise InvalidRow(place + 2)
    return Machine(letters, rows, kinds)


def read_sum(written):
    """The sum with just this text."""
    lines = _lines_of(written)
    letters = _letters_in(lines[0], "sum")
    products = []
    for row, line in enumerate(lines[1:], 2):
        product = _product_in(line, letters)
        if product is None or len(products) == Sum.MOST_PRODUCTS or products and product <= products[-1]:
            raise InvalidRow(row)
        products.append(product)
    for at, product in enumerate(products):
        if any([is_within(product, other) for other in products if other != product]):
            raise InvalidRow(at + 2)
    return Sum(letters, products)


def number_in(word):
    """The number that a word is, written without needless zeros; None if it is none."""
    if word == "" or not all([sign in "0123456789" for sign in word]) or word[0] == "0" and len(word) > 1:
        return None
    # Digit by digit, as Python reads only numbers that are not too long.
    number = 0
    for sign in word:
        number = number * 10 + "0123456789".index(sign)
    return number


def _lines_of(written):
    """The list of the lines of any value, at least one; the last one is None if it has no line feed."""
    if not isinstance(written, str) or written == "":
        raise InvalidRow(1)
    lines = written.split("\n")
    return lines[:-1] if lines[-1] == "" else lines[:-1] + [None]


def _letters_in(line, word):
    """The letters in a first line that begins with the word."""
    words = [] if line is None else line.split(" ")
    if len(words) != 2 or words[0] != word or not are_letters(words[1]):
        raise InvalidRow(1)
    return words[1]


def _place_in(line, place, many):
    """The kind and the goals in the line of a place with so many goals; None for the goals if it is not so."""
    words = [] if line is None else line.split(" ")
    if len(words) != many + 3 or words[0] not in ("yes", "no") or words[1] != str(place) or words[2] != "to":
        return False, None
    goals = [number_in(word) for word in words[3:]]
    if place >= Machine.MOST_PLACES or not all([_is_below(goal, Machine.MOST_PLACES) for goal in goals]):
        return False, None
    return words[0] == "yes", goals


def _is_below(number, most):
    return number is not None and number < most


def _product_in(line, letters):
    """The reduced product over the letters in a line; None if it is none."""
    words = [] if line is None else line.split(" ")
    product = tuple(words[1:])
    if words[:1] != ["product"] or not is_product_over(product, letters) or reduced(product) != product:
        return None
    return product
