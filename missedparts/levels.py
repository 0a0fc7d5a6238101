"""Levels that part two machines, and ladders and towers, which show that fewer levels do not."""

from missedparts.basics import is_over
from missedparts.closures import is_taken_within, least_whole, under_sum, web_of
from missedparts.codes import coded, told
from missedparts.errors import TooMany
from missedparts.machines import need_two
from missedparts.parts import is_part
from missedparts.shared import do_share
from missedparts.sums import Sum, is_product_over

MOST_IN_LEVELS = 4
MOST_LEVELS = 24
MOST_IN_TOWER = 400


def levels(one, other):
    """The list of the levels; None if both machines share a product."""
    need_two(one, other, MOST_IN_LEVELS)
    if do_share(one, other):
        return None
    found = []
    above = Sum.whole(one.letters)
    while len(found) < MOST_LEVELS:
        above = under_sum(_whose_turn(one, other, len(found)), above)
        if len(above) == 0:
            return found
        found.append(above)
    # Whether there is one more level is known without its products, which may be too many.
    if least_whole(_whose_turn(one, other, len(found)), above, "") is not None:
        raise TooMany("levels", MOST_LEVELS)
    return found


def depth(one, other):
    """How many levels there are; None if both machines share a product."""
    found = levels(one, other)
    return None if found is None else len(found)


def are_levels(one, other, value):
    """Whether any value is a list of sums that are levels which part the one machine from the other one."""
    need_two(one, other, MOST_IN_LEVELS)
    if not isinstance(value, (list, tuple)):
        return False
    if not all([isinstance(level, Sum) and level.letters == one.letters for level in value]):
        return False
    above = Sum.whole(one.letters)
    for at, level in enumerate(list(value) + [Sum(one.letters, [])]):
        machine = _whose_turn(one, other, at)
        if not level.is_within(above) or not is_taken_within(machine, above.codes(), level.codes()):
            return False
        above = level
    return True


def ladder(one, other):
    """A ladder of as many products as there are levels; None if both machines share a product."""
    found = levels(one, other)
    if not found:
        return found
    products = [found[-1].codes()[0]]
    for at in range(len(found) - 1, 0, -1):
        machine = _whose_turn(one, other, at)
        # What is within a level is so under one of the products of the level before.
        rungs = [codes for codes in found[at - 1].codes() if web_of(machine, codes).has_product(products[-1])]
        products.append(rungs[0])
    return [told(codes) for codes in products[::-1]]


def is_ladder(one, other, value):
    """Whether any value is a list of products that is a ladder."""
    need_two(one, other, MOST_IN_LEVELS)
    if not isinstance(value, (list, tuple)):
        return False
    if not all([is_product_over(product, one.letters) for product in value]):
        return False
    above = Sum.whole(one.letters).codes()[0]
    for at, product in enumerate(value):
        if not web_of(_whose_turn(one, other, at), above).has_product(coded(product)):
            return False
        above = coded(product)
    return True


def tower(one, other):
    """The tower of as many texts as there are levels; None if both machines share a product."""
    found = levels(one, other)
    if not found:
        return found
    within = [Sum.whole(one.letters)] + found[:-1]
    texts = [""]
    for at in range(len(found) - 1, -1, -1):
        text = least_whole(_whose_turn(one, other, at), within[at], texts[-1])
        if len(text) > MOST_IN_TOWER:
            raise TooMany("letters", MOST_IN_TOWER)
        texts.append(text)
    return texts[1:]


def is_tower(one, other, value):
    """Whether any value is a list of texts over the letters that is a tower."""
    need_two(one, other, MOST_IN_LEVELS)
    if not isinstance(value, (list, tuple)):
        return False
    if not all([is_over(text, one.letters) for text in value]):
        return False
    texts = list(value)[::-1]
    for at, text in enumerate(texts):
        if not _whose_turn(one, other, at).takes(text):
            return False
        if at > 0 and not is_part(text, texts[at - 1]):
            return False
    return True


def _whose_turn(one, other, at):
    """The machine whose turn it is at a position: the one at 0."""
    return one if at & 1 == 0 else other
