"""Products that two machines share: each text is a part of one that the one takes, and of one that the other does."""

from missedparts.closures import Web, kept_of_webs, web_of
from missedparts.codes import STAR, coded, letter_codes, reduced_codes, told
from missedparts.machines import need_two
from missedparts.sums import Sum, is_product_over, sum_of

MOST_SHARED = 4


def kept(one, other):
    """The sum of all shared products."""
    need_two(one, other, MOST_SHARED)
    return sum_of(one.letters, kept_of_webs([_web_of_pairs(one, other)], one.letters, Sum.MOST_PRODUCTS))


def shared(one, other):
    """The first shared product that is kept; None if there is none."""
    products = kept(one, other).products()
    return products[0] if products else None


def is_shared(one, other, value):
    """Whether any value is a shared product."""
    need_two(one, other, MOST_SHARED)
    if not is_product_over(value, one.letters):
        return False
    codes = coded(value)
    return all([web_of(machine, codes).has_product(codes) for machine in (one, other)])


def do_share(one, other):
    """Whether there is a shared product, for machines of any number of places."""
    return _web_of_pairs(one, other).start() != 0


def some_shared(one, other):
    """A shared product, for machines of any number of places; None if there is none."""
    steps = _steps_of_pairs(one, other)
    many = len(one) * len(other)
    stars = _stars(letter_codes(one.letters))
    ends = _ends_of_pairs(one, other)
    met = {0: ()}
    waiting = [0]
    while waiting:
        longer = []
        for node in waiting:
            if node in ends:
                return told(reduced_codes(met[node]))
            for code, goal in steps[node]:
                if goal not in met:
                    # A step that needs no letter leads to the node of a star, or from there to the pair behind it.
                    piece = code if code or goal < many else stars[goal // many - 1]
                    met[goal] = met[node] + (piece,) if piece else met[node]
                    longer.append(goal)
        waiting = longer
    return None


def pairs_come_to(one, other):
    """The list of the pairs of places that are come to from both places 0 by letters and stars."""
    steps = _steps_of_pairs(one, other)
    goals = [[goal for _, goal in row] for row in steps]
    return [divmod(node, len(other)) for node in sorted(_reached_from(goals, 0)) if node < len(one) * len(other)]


def _web_of_pairs(one, other):
    """The web of the texts of all shared products."""
    return Web(one.letters, _steps_of_pairs(one, other), _ends_of_pairs(one, other))


def _ends_of_pairs(one, other):
    """The nodes of the pairs of places that both take."""
    kinds, other_kinds = one.kinds(), other.kinds()
    return [
        place * len(other) + other_place for place, kind in enumerate(kinds)
        for other_place, other_kind in enumerate(other_kinds) if kind and other_kind
    ]


def _steps_of_pairs(one, other):
    """The steps between the pairs of places, as those of a web.

    Its nodes are the pairs of places, and behind them, for each star, a node ahead of each pair: this one has been
    come to by the star, of which any letters may still be read.
    """
    pairs = [(place, other_place) for place in range(len(one)) for other_place in range(len(other))]
    codes = letter_codes(one.letters)
    steps = [_letter_steps(one, other, pair, codes) for pair in pairs]
    for star in _stars(codes):
        ahead = len(steps)
        goals, other_goals = _star_goals(one, codes, star), _star_goals(other, codes, star)
        for at, pair in enumerate(pairs):
            steps.append([(code, ahead + at) for code in codes if code & star] + [(0, at)])
            steps[at].extend([
                (0, ahead + goal * len(other) + other_goal)
                for goal in goals[pair[0]] for other_goal in other_goals[pair[1]]
            ])
    return steps


def _letter_steps(one, other, pair, codes):
    """The steps by letters from a pair of places to the pairs of their goals."""
    goals, other_goals = one.rows()[pair[0]], other.rows()[pair[1]]
    return [(code, goal * len(other) + other_goal) for code, goal, other_goal in zip(codes, goals, other_goals)]


def _stars(codes):
    """The codes of all stars of some of these letters."""
    bits = [0]
    for code in codes:
        bits = bits + [star | code for star in bits]
    return [star | STAR for star in bits if star]


def _star_goals(machine, codes, star):
    """For each place the places to which the star leads: by its letters, and over a place at which all may come again.

    There some text leads back that has all letters of the star, each at least once, and no others.
    """
    rows = [[goal for code, goal in zip(codes, row) if code & star] for row in machine.rows()]
    reached = [_reached_from(rows, place) for place in range(len(rows))]
    again = [place for place in range(len(rows)) if _come_all_again(rows, reached, place)]
    found = []
    for place in range(len(rows)):
        over = [middle for middle in again if middle in reached[place]]
        found.append([goal for goal in range(len(rows)) if any([goal in reached[middle] for middle in over])])
    return found


def _reached_from(rows, start):
    """A dict of True for all places that one comes to from this one."""
    met = {start: True}
    waiting = [start]
    while waiting:
        for goal in rows[waiting.pop()]:
            if goal not in met:
                met[goal] = True
                waiting.append(goal)
    return met


def _come_all_again(rows, reached, place):
    """Whether a text leads from the place back to it that has all the letters of which the rows tell the goals."""
    together = [other for other in reached[place] if place in reached[other]]
    for index in range(len(rows[place])):
        if not any([rows[other][index] in together for other in together]):
            return False
    return True
