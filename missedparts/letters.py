"""By parts of how few letters two machines are told apart."""

from missedparts.basics import is_count, is_over
from missedparts.errors import InvalidNumber, TooMany
from missedparts.machines import need_two
from missedparts.shared import do_share

MOST_BY_LETTERS = 5
# The greatest number of letters that is looked at, for machines of one, two and three letters.
BOUNDS = (12, 5, 3)


def least_number(one, other):
    """The least number of letters by which both machines are parted; None if they share a product."""
    need_two(one, other, MOST_BY_LETTERS)
    if do_share(one, other):
        return None
    bound = _bound(one)
    for number in range(bound + 1):
        if _pair_alike(one, other, number) is None:
            return number
    raise TooMany("letters", bound)


def alike_pair(one, other, number):
    """A tuple of two texts alike to the number, taken one by the one, one by the other machine; None."""
    _need_number(number)
    need_two(one, other, MOST_BY_LETTERS)
    if number > _bound(one):
        raise TooMany("letters", _bound(one))
    return _pair_alike(one, other, number)


def is_alike_pair(one, other, number, value):
    """Whether any value is such a tuple."""
    _need_number(number)
    need_two(one, other, MOST_BY_LETTERS)
    if not isinstance(value, tuple) or len(value) != 2:
        return False
    if not all([is_over(text, one.letters) for text in value]):
        return False
    return one.takes(value[0]) and other.takes(value[1]) and are_alike_to(value[0], value[1], number)


def are_alike_to(one, other, number):
    """Whether two texts have the same parts of at most so many letters."""
    return _like_all(one, number) == _like_all(other, number)


def _like_all(text, number):
    """A text alike to the number with this text; it is the same one for all texts that are alike to it.

    For each letter, how long the shortest parts are that end just here, read as far ahead as can be, and those that
    begin just here, read from the end likewise. If both together have more letters than the number, without counting
    this one twice, it is not needed. Needed ones beside each other of which both counts are the same, and just reach
    the number, may stand in any sequence.
    """
    needed = []
    begins = {letter: 1 for letter in text}
    for letter, end in _ends(text)[::-1]:
        begin = begins[letter]
        if end + begin <= number + 1:
            needed.append((end, begin, letter))
            begins = {other: min(begins[other], begin + 1) for other in begins}
            begins[letter] = begin + 1
    return _in_sequence(needed[::-1], number)


def _ends(text):
    """For each letter of the text, with it, how long the shortest parts are that end just there."""
    found = []
    ends = {letter: 1 for letter in text}
    for letter in text:
        end = ends[letter]
        found.append((letter, end))
        ends = {other: min(ends[other], end + 1) for other in ends}
        ends[letter] = end + 1
    return found


def _in_sequence(needed, number):
    """The letters that are needed, where those that may stand in any sequence rise."""
    letters = []
    run = []
    before = None
    for end, begin, letter in needed:
        if (end, begin) != before or end + begin <= number:
            letters.extend(sorted(run))
            run = []
        run.append(letter)
        before = (end, begin)
    return "".join(letters + sorted(run))


def _pair_alike(one, other, number):
    """A tuple of two texts alike to the number, taken one by the one, one by the other machine; None.

    Texts are told by the set of their parts of at most so many letters: these sets are few.
    """
    texts = taken_texts(one, number)
    for parts, text in taken_texts(other, number).items():
        if parts in texts:
            return texts[parts], text
    return None


def taken_texts(machine, number):
    """For each set of parts of at most so many letters of a text that is taken a least text with these parts."""
    rows, kinds = machine.rows(), machine.kinds()
    sizes = [1]
    for _ in range(number):
        sizes.append(sizes[-1] * len(machine.letters))
    met = {(1, 0): True}
    row = [(1, 0, "")]
    found = {}
    while row:
        longer = []
        for parts, place, text in row:
            if kinds[place]:
                found.setdefault(parts, text)
            for index, goal in enumerate(rows[place]):
                state = (_with_letter(parts, sizes, index), goal)
                if state not in met:
                    met[state] = True
                    longer.append((state[0], goal, text + machine.letters[index]))
        row = longer
    return found


def _with_letter(parts, sizes, index):
    """The set of the parts of a text with one letter more, by its index among the letters.

    A set of parts is a number with a bit for each part: first those of no letters, then of one, and so on, and of as
    many letters by the number that has their indices as digits, the first letter being the last digit. So with one
    letter more behind them all those of as many letters move on by as much.
    """
    first = sum(sizes) - sizes[-1]
    for size in sizes[:-1][::-1]:
        first = first - size
        of_size = (parts >> first) & ((1 << size) - 1)
        parts = parts | (of_size << (first + size + index * size))
    return parts


def _bound(machine):
    """The greatest number of letters that is looked at."""
    return BOUNDS[len(machine.letters) - 1]


def _need_number(value):
    """Raise InvalidNumber unless the value is a count."""
    if not is_count(value):
        raise InvalidNumber(value)
