"""Products as tuples of numbers, and what can be worked out of them.

The code of a piece has a bit for each of its letters, and the bit STAR if it has a star. So a piece can be read by
another one just if it has no bit that the other one lacks. A closed set that is told by its products is here a
sorted tuple of reduced ones, none within another one: equal sets are equal tuples.
"""

from missedparts.basics import SMALL_LETTERS

STAR = 1 << 26


def letter_code(letter):
    """The code of one small letter."""
    return 1 << SMALL_LETTERS.index(letter)


def letter_codes(text):
    """The codes of the letters of a text, one by one."""
    return [letter_code(letter) for letter in text]


def coded(product):
    """The codes of a product of strings."""
    return tuple([_piece_code(piece) for piece in product])


def _piece_code(piece):
    if piece.endswith("*"):
        return sum(letter_codes(piece[:-1])) | STAR
    return letter_code(piece)


def told(codes):
    """The product of strings with these codes."""
    return tuple([_piece(code) for code in codes])


def _piece(code):
    letters = "".join([letter for letter in SMALL_LETTERS if code & letter_code(letter)])
    return letters + "*" if code & STAR else letters


def goal_in(codes, at, code):
    """Where one stands in a product if a piece is read from a position on, as far ahead as can be; None if nowhere."""
    while at < len(codes) and code & ~codes[at]:
        at = at + 1
    if at == len(codes):
        return None
    return at if codes[at] & STAR else at + 1


def goes_into(one, other):
    """Whether all texts of one product are texts of the other one."""
    at = 0
    long = len(other)
    for code in one:
        while at < long and code & ~other[at]:
            at = at + 1
        if at == long:
            return False
        if not other[at] & STAR:
            at = at + 1
    return True


def goes_into_some(codes, closed):
    """Whether all texts of a product are texts of a closed set: then they are so of one of its products."""
    for other in closed:
        if goes_into(codes, other):
            return True
    return False


def reduced_codes(codes):
    """The codes of the reduced product with the same texts."""
    pieces = []
    for code in codes:
        # If the last piece is dropped for a star, the one ahead of it cannot have all letters of this star.
        if not pieces or not _is_beside(code, pieces[-1]):
            while pieces and _is_beside(pieces[-1], code):
                pieces.pop()
            pieces.append(code)
    return tuple(pieces)


def _is_beside(code, star):
    """Whether a piece adds no text where it stands beside the other one, which is then a star."""
    return star & STAR != 0 and code & ~star == 0


def kept_codes(found, most):
    """Of reduced products those that are within no other one, without repetition.

    None if more than most are left; if most is None there is no bound.
    """
    kept = []
    unlike = {codes: True for codes in found}
    for codes in sorted(list(unlike), key=_weight, reverse=True):
        if not goes_into_some(codes, kept):
            kept.append(codes)
            if most is not None and len(kept) > most:
                return None
    return kept


def _weight(codes):
    """A tuple that is greater for each reduced product that another reduced one is within.

    How many stars of three letters, of two, of one, and how many single letters: for stars of the same size cannot
    go into the same star, as the product is reduced, and so on behind them.
    """
    many = [0, 0, 0, 0]
    for code in codes:
        size = _size(code & ~STAR) if code & STAR else 0
        many[3 - size] = many[3 - size] + 1
    return tuple(many)


def _size(bits):
    """How many bits there are."""
    many = 0
    while bits:
        bits = bits & (bits - 1)
        many = many + 1
    return many


def is_closed_within(mine, theirs):
    """Whether all texts of one closed set are texts of the other one."""
    return all([goes_into_some(codes, theirs) for codes in mine])


def closed_of(found):
    """The closed set of the texts of these reduced products."""
    if len(found) < 2:
        return tuple(found)
    return tuple(sorted(kept_codes(found, None)))


def behind_letter(closed, code):
    """The closed set of the texts that make a text of the closed set if they stand behind this letter."""
    found = []
    for codes in closed:
        at = goal_in(codes, 0, code)
        if at is not None:
            found.append(codes[at:])
    return closed_of(found)


def has_text(closed, text):
    """Whether a text, as codes of letters, is one of the closed set."""
    return goes_into_some(text, closed)


def joined(state, letters, goals, answers, most):
    """The kept products of a closed set, from those of the sets behind each letter; None if more than most.

    The letters, as codes, and the goals are in the same sequence; a goal is the state itself, where a letter changes
    nothing, or None, where nothing may stand behind it, or the answers have the list of its products.
    """
    star = 0
    exits = []
    for letter, goal in zip(letters, goals):
        if goal == state:
            star = star | letter | STAR
        elif goal is not None:
            exits.append((letter, answers[goal]))
    begin = (star,) if star else ()
    if not exits:
        return [begin]
    return kept_codes(
        [reduced_codes(begin + (code,) + codes) for code, products in exits for codes in products], most)


def met_codes(mine, theirs, letters, most):
    """The kept products of the texts that both closed sets have; None if they are more than most.

    It goes on as worked_out does, but what an operator runs may not call what it is passed.
    """
    goals = {}
    answers = {}
    stack = [(mine, theirs)]
    while stack:
        pair = stack[-1]
        if pair not in goals:
            goals[pair] = _goals_of_pair(pair, letters)
        waiting = [goal for goal in goals[pair] if goal is not None and goal != pair and goal not in answers]
        if waiting:
            stack.append(waiting[0])
        else:
            stack.pop()
            answers[pair] = _met_answer(pair, letters, goals[pair], answers, most)
            if answers[pair] is None:
                return None
    return answers[(mine, theirs)]


def _goals_of_pair(pair, letters):
    """The pairs of closed sets behind each letter, None where nothing is left; no goals where none is needed."""
    mine, theirs = pair
    if is_closed_within(mine, theirs) or is_closed_within(theirs, mine):
        return []
    goals = [(behind_letter(mine, code), behind_letter(theirs, code)) for code in letters]
    return [goal if goal[0] and goal[1] else None for goal in goals]


def _met_answer(pair, letters, goals, answers, most):
    """The kept products of the texts that both of the pair have."""
    mine, theirs = pair
    if is_closed_within(mine, theirs):
        return list(mine)
    if is_closed_within(theirs, mine):
        return list(theirs)
    return joined(pair, letters, goals, answers, most)


def worked_out(start, goals_of, answer_of):
    """The answer for a state, where each answer hangs on those for the goals; None as soon as one is None.

    goals_of(state) is a list of states and None; a state may be its own goal, but is not come to again otherwise.
    answer_of(state, goals, answers) finds the answers for the goals in a dict.
    """
    goals = {}
    answers = {}
    # The ways may be longer than calls can be put into one another.
    stack = [start]
    while stack:
        state = stack[-1]
        if state not in goals:
            goals[state] = goals_of(state)
        waiting = [goal for goal in goals[state] if goal is not None and goal != state and goal not in answers]
        if waiting:
            stack.append(waiting[0])
        else:
            stack.pop()
            answers[state] = answer_of(state, goals[state], answers)
            if answers[state] is None:
                return None
    return answers[start]


def kept_from(start, letters, goals_of, most):
    """The kept products of a closed set that is told by the states one comes to by its texts; None for more than most.

    goals_of(state) has a state for each of the letters, given as codes, and None where no text goes on. That a set
    behind a letter never has more products than the set itself lets this stop early.
    """
    def answer_of(state, goals, answers):
        return joined(state, letters, goals, answers, most)

    return worked_out(start, goals_of, answer_of)
