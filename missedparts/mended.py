"""How few places of a machine must get the other kind so that it shares no product with another one."""

from missedparts.edits import need_unlike_places, turned
from missedparts.machines import need_two
from missedparts.shared import do_share, pairs_come_to

MOST_MENDED = 5


def how_many_turned(one, other):
    """The fewest places of one that mend it beside the other one."""
    return len(mendings(one, other)[0])


def mendings(one, other):
    """The sorted list of all tuples of so many places, rising, that mend one beside the other one.

    There is just one: to which pairs of places letters and stars lead does not hang on kinds. So each place that
    takes in such a pair with a place that takes must be turned, and no other one.
    """
    need_two(one, other, MOST_MENDED)
    kinds, other_kinds = one.kinds(), other.kinds()
    wrong = [place for place, other_place in pairs_come_to(one, other) if kinds[place] and other_kinds[other_place]]
    return [tuple(sorted(set(wrong)))]


def is_mended(one, other, places):
    """Whether one, with the other kind at these places, and the other one share no product."""
    need_unlike_places(one, places)
    need_two(one, other, MOST_MENDED)
    return not do_share(turned(one, places), other)
