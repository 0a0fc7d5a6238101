"""Parts and wholes of texts, and how far two texts are alike by their parts."""

from missedparts.basics import is_text
from missedparts.errors import InvalidText, TooMany

MOST_IN_PARTS = 10
MOST_IN_UNLIKE = 200
MOST_IN_COMMON = 60


def is_part(text, whole):
    """Whether the text is the whole with some letters left out, perhaps none."""
    _need_text(text)
    _need_text(whole)
    at = 0
    for letter in text:
        found = whole.find(letter, at)
        if found < 0:
            return False
        at = found + 1
    return True


def how_many_parts(text):
    """How many unlike parts the text has."""
    _need_text(text)
    many = 1
    counted = {}
    for letter in text:
        # Each part may get the letter behind it; those that got it when it last came are there already.
        more = 2 * many - counted.get(letter, 0)
        counted[letter] = many
        many = more
    return many


def parts(text):
    """The list of all parts of the text, the least first."""
    _need_text(text)
    if len(text) > MOST_IN_PARTS:
        raise TooMany("letters", MOST_IN_PARTS)
    found = {"": True}
    for letter in text:
        for part in list(found):
            found[part + letter] = True
    # The second sorting keeps texts of the same length in the sequence of the first one.
    return sorted(sorted(found), key=len)


def unlike_part(one, other):
    """The least text that is a part of just one of both; None if both are the same."""
    _need_two_texts(one, other, MOST_IN_UNLIKE)
    return _least_unlike(one, other)


def alike_to(one, other):
    """The greatest number to which both are alike; None if both are the same."""
    part = unlike_part(one, other)
    if part is None:
        return None
    return len(part) - 1


def common_part(one, other):
    """The least of the longest texts that are parts of both."""
    _need_two_texts(one, other, MOST_IN_COMMON)
    most = _most_common(one, other)
    steps = _steps(one)
    other_steps = _steps(other)
    at, other_at = 0, 0
    letters = []
    while most[at][other_at] > 0:
        letter = _least_common_letter(most, at, other_at, steps, other_steps)
        letters.append(letter)
        at, other_at = steps[at][letter], other_steps[other_at][letter]
    return "".join(letters)


def common_whole(one, other):
    """The least of the shortest texts that are wholes of both."""
    _need_two_texts(one, other, MOST_IN_COMMON)
    most = _most_common(one, other)
    at, other_at = 0, 0
    letters = []
    while at < len(one) and other_at < len(other):
        first, second = one[at], other[other_at]
        # Of two unlike letters one may be put ahead if no common letter is lost by it.
        first_can = most[at + 1][other_at] == most[at][other_at]
        second_can = most[at][other_at + 1] == most[at][other_at]
        letter = first if first_can and (first <= second or not second_can) else second
        letters.append(letter)
        if letter == first:
            at = at + 1
        if letter == second:
            other_at = other_at + 1
    return "".join(letters) + one[at:] + other[other_at:]


def _need_text(value):
    """Raise InvalidText unless the value is a text."""
    if not is_text(value):
        raise InvalidText(value)


def _need_two_texts(one, other, most):
    """Raise InvalidText unless both are texts, then TooMany if one of them has too many letters."""
    _need_text(one)
    _need_text(other)
    if len(one) > most or len(other) > most:
        raise TooMany("letters", most)


def _steps(text):
    """For each position a dict: each letter that comes from there on, and the position behind it."""
    rows = [{}]
    for at in range(len(text) - 1, -1, -1):
        row = dict(rows[-1])
        row[text[at]] = at + 1
        rows.append(row)
    return rows[::-1]


def _least_unlike(one, other):
    """The least text that is a part of just one of both; None if both are the same."""
    steps = _steps(one)
    other_steps = _steps(other)
    letters = sorted(set(one + other))
    met = {(0, 0): True}
    row = [("", 0, 0)]
    # Texts are met in rising sequence, so the first one to each pair of positions is the least one.
    while row:
        longer = []
        for text, at, other_at in row:
            for letter in letters:
                goal = steps[at].get(letter)
                other_goal = other_steps[other_at].get(letter)
                if (goal is None) != (other_goal is None):
                    return text + letter
                if goal is not None and (goal, other_goal) not in met:
                    met[(goal, other_goal)] = True
                    longer.append((text + letter, goal, other_goal))
        row = longer
    return None


def _most_common(one, other):
    """How long a common part of both texts is at most, from each position of one and of other on."""
    rows = [[0] * (len(other) + 1)]
    for at in range(len(one) - 1, -1, -1):
        below = rows[-1]
        row = [0] * (len(other) + 1)
        for other_at in range(len(other) - 1, -1, -1):
            if one[at] == other[other_at]:
                row[other_at] = below[other_at + 1] + 1
            else:
                row[other_at] = max(below[other_at], row[other_at + 1])
        rows.append(row)
    return rows[::-1]


def _least_common_letter(most, at, other_at, steps, other_steps):
    """The least letter with which a longest common part can begin at these positions."""
    left = most[at][other_at] - 1
    return min([
        letter for letter in steps[at]
        if letter in other_steps[other_at]
        and most[steps[at][letter]][other_steps[other_at][letter]] == left
    ])
