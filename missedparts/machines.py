"""Machines: places, a goal for each place and letter, and places that take."""

from missedparts.basics import are_letters, is_integer, is_over
from missedparts.errors import (
    InvalidKinds, InvalidLetter, InvalidLetters, InvalidMachine, InvalidPlace, InvalidRows, InvalidText, NotComeTo,
    OtherLetters, TooMany,
)


class Machine:
    """A machine that takes some of the texts over its letters; it begins at place 0."""

    MOST_PLACES = 40

    def __init__(self, letters, rows, kinds):
        _need_parts(letters, rows, kinds)
        met = _met_from(rows, 0)
        missing = [place for place in range(len(rows)) if place not in met]
        if missing:
            raise NotComeTo(missing[0])
        self._letters = letters
        self._rows = [list(row) for row in rows]
        self._kinds = list(kinds)

    @staticmethod
    def come_to(letters, rows, kinds):
        """The machine of those places that are come to, numbered as come to."""
        _need_parts(letters, rows, kinds)
        return _numbered_from(letters, rows, kinds, 0)

    @property
    def letters(self):
        """The letters of its texts."""
        return self._letters

    def rows(self):
        """The list of the lists of goals."""
        return [list(row) for row in self._rows]

    def kinds(self):
        """The list of the kinds."""
        return list(self._kinds)

    def goal(self, place, letter):
        """The place to which the letter leads from this one."""
        self._need_place(place)
        if not isinstance(letter, str) or len(letter) != 1 or letter not in self._letters:
            raise InvalidLetter(letter)
        return self._rows[place][self._letters.index(letter)]

    def goes(self, place, text):
        """The place to which the text leads from this one."""
        self._need_place(place)
        need_text(text, self._letters)
        return self._led(place, text)

    def takes(self, text):
        """Whether the text is taken."""
        need_text(text, self._letters)
        return self._kinds[self._led(0, text)]

    def first_text(self, place):
        """The least text that leads from place 0 to this one."""
        self._need_place(place)
        return first_texts(self._letters, self._rows, 0)[place]

    def first_taken(self):
        """The least text that is taken; None if none is."""
        # The places are met in the sequence of their least texts.
        for place, text in first_texts(self._letters, self._rows, 0).items():
            if self._kinds[place]:
                return text
        return None

    def at(self, place):
        """The machine of the places that are come to from this one, numbered as come to from it."""
        self._need_place(place)
        return _numbered_from(self._letters, self._rows, self._kinds, place)

    def numbered(self):
        """The same machine, numbered as come to."""
        return _numbered_from(self._letters, self._rows, self._kinds, 0)

    def least(self):
        """The machine with the same texts that has one place for each class of alike places."""
        return least_of(self._letters, self._rows, self._kinds, 0)

    def __len__(self):
        return len(self._rows)

    def __contains__(self, value):
        return is_over(value, self._letters) and self._kinds[self._led(0, value)]

    def __eq__(self, other):
        return (isinstance(other, Machine) and self._letters == other.letters
                and self._rows == other.rows() and self._kinds == other.kinds())

    def __repr__(self):
        return f"Machine({self._letters!r}, {self._rows!r}, {self._kinds!r})"

    def __and__(self, other):
        rows, pairs = _paired(self, other)
        return Machine(self._letters, rows, [one and two for one, two in _kinds_of(self, other, pairs)])

    def __or__(self, other):
        rows, pairs = _paired(self, other)
        return Machine(self._letters, rows, [one or two for one, two in _kinds_of(self, other, pairs)])

    def __sub__(self, other):
        rows, pairs = _paired(self, other)
        return Machine(self._letters, rows, [one and not two for one, two in _kinds_of(self, other, pairs)])

    def __invert__(self):
        return Machine(self._letters, self._rows, [not kind for kind in self._kinds])

    def _need_place(self, value):
        if not is_place(value, len(self._rows)):
            raise InvalidPlace(value)

    def _led(self, place, text):
        """The place behind a text over the letters."""
        for letter in text:
            place = self._rows[place][self._letters.index(letter)]
        return place


class Marks:
    """Sets of places of a machine, each told by a number with a bit for each place that is in it."""

    def __init__(self, machine):
        self._last = _bits([place for place, kind in enumerate(machine.kinds()) if kind])
        self._bits = [[1 << goal for goal in row] for row in machine.rows()]
        self._known = {}

    def led(self, places, index):
        """The goals of these places by the letter with this index."""
        if (places, index) not in self._known:
            found = 0
            for place, goals in enumerate(self._bits):
                if places >> place & 1:
                    found = found | goals[index]
            self._known[(places, index)] = found
        return self._known[(places, index)]

    def led_by_some(self, places, indices):
        """The goals of these places by one of the letters with these indices."""
        found = 0
        for index in indices:
            found = found | self.led(places, index)
        return found

    def stayed(self, places, indices):
        """The places to which texts of the letters with these indices lead from these places."""
        before = 0
        while before != places:
            before = places
            places = places | self.led_by_some(places, indices)
        return places

    def some_take(self, places):
        """Whether one of these places takes."""
        return places & self._last != 0


def is_same(one, other):
    """Whether both machines take the same texts."""
    return parting(one, other) is None


def parting(one, other):
    """The least text that just one of both machines takes; None if there is none."""
    need_same_letters(one, other)
    return _first_with_kinds(one, other, ((True, False), (False, True)))


def least_of_both(one, other):
    """The least text that both machines, with the same letters, take; None if there is none."""
    return _first_with_kinds(one, other, ((True, True),))


def _first_with_kinds(one, other, wanted):
    """The least text that leads in two machines to places with kinds that are wanted together; None."""
    rows, other_rows = one.rows(), other.rows()
    kinds, other_kinds = one.kinds(), other.kinds()
    met = {(0, 0): ""}
    row = [(0, 0)]
    while row:
        longer = []
        for place, other_place in row:
            text = met[(place, other_place)]
            if (kinds[place], other_kinds[other_place]) in wanted:
                return text
            for letter, goal, other_goal in zip(one.letters, rows[place], other_rows[other_place]):
                if (goal, other_goal) not in met:
                    met[(goal, other_goal)] = text + letter
                    longer.append((goal, other_goal))
        row = longer
    return None


def need_text(value, letters):
    """Raise InvalidText unless the value is a text over the letters."""
    if not is_over(value, letters):
        raise InvalidText(value)


def need_same_letters(one, other):
    """Raise OtherLetters unless two machines or sums have the same letters."""
    if one.letters != other.letters:
        raise OtherLetters(one.letters, other.letters)


def need_places(machine, most):
    """Raise TooMany if the machine has more places."""
    if len(machine) > most:
        raise TooMany("places", most)


def need_two(one, other, most):
    """Raise OtherLetters unless both machines have the same letters, then TooMany if one has more places."""
    need_same_letters(one, other)
    need_places(one, most)
    need_places(other, most)


def first_texts(letters, rows, start):
    """For each place that is come to from this one the least text that leads there, in the sequence of these texts."""
    texts = {start: ""}
    row = [start]
    while row:
        longer = []
        for place in row:
            for letter, goal in zip(letters, rows[place]):
                if goal not in texts:
                    texts[goal] = texts[place] + letter
                    longer.append(goal)
        row = longer
    return texts


def _bits(places):
    """The number with a bit for each of these places."""
    return sum([1 << place for place in places])


def met_from(start, goals_of, most):
    """The list of the states that are come to from one, and for each the list of the numbers of its goals in it.

    goals_of(state) is the list of its goals. TooMany if there are more states; if most is None there is no bound.
    """
    numbers = {start: 0}
    rows = []
    waiting = [start]
    while waiting:
        longer = []
        for state in waiting:
            goals = goals_of(state)
            for goal in goals:
                if goal not in numbers:
                    numbers[goal] = len(numbers)
                    longer.append(goal)
            rows.append([numbers[goal] for goal in goals])
        if most is not None and len(numbers) > most:
            raise TooMany("places", most)
        waiting = longer
    return list(numbers), rows


def least_of(letters, rows, kinds, start):
    """The least machine that begins at this one of some places, from which all are come to; they may be many more."""
    classes = alike_classes(rows, kinds)
    # The goals of any place of a class are in the same classes.
    firsts = {}
    for place, number in enumerate(classes):
        firsts.setdefault(number, place)
    if len(firsts) > Machine.MOST_PLACES:
        raise TooMany("places", Machine.MOST_PLACES)
    made = [[classes[goal] for goal in rows[firsts[number]]] for number in range(len(firsts))]
    return _numbered_from(letters, made, [kinds[firsts[number]] for number in range(len(firsts))], classes[start])


def alike_classes(rows, kinds):
    """For each place the number of its class of alike places, from 0."""
    classes = [int(kind) for kind in kinds]
    many = 0
    # As long as the goals part places that were together, there are more classes.
    while many < len(set(classes)):
        many = len(set(classes))
        signs = [(classes[place], tuple([classes[goal] for goal in rows[place]])) for place in range(len(rows))]
        numbers = {}
        for sign in signs:
            numbers.setdefault(sign, len(numbers))
        classes = [numbers[sign] for sign in signs]
    return classes


def _need_parts(letters, rows, kinds):
    """Raise the first error that there is with what a machine is to be made of, but NotComeTo."""
    if not are_letters(letters):
        raise InvalidLetters(letters)
    if not isinstance(rows, (list, tuple)) or len(rows) == 0:
        raise InvalidRows(None)
    for position, row in enumerate(rows):
        if not _is_row(row, len(letters), len(rows)):
            raise InvalidRows(position)
    if not isinstance(kinds, (list, tuple)) or len(kinds) != len(rows):
        raise InvalidKinds(None)
    for position, kind in enumerate(kinds):
        if not isinstance(kind, bool):
            raise InvalidKinds(position)
    if len(rows) > Machine.MOST_PLACES:
        raise TooMany("places", Machine.MOST_PLACES)


def _is_row(value, many_letters, many_places):
    if not isinstance(value, (list, tuple)) or len(value) != many_letters:
        return False
    return all([is_place(goal, many_places) for goal in value])


def is_place(value, many):
    """Whether any value is one of so many places."""
    return is_integer(value) and 0 <= value < many


def _met_from(rows, start):
    """A dict from each place that is come to from this one to its number, as come to."""
    numbers = {start: 0}
    row = [start]
    while row:
        longer = []
        for place in row:
            for goal in rows[place]:
                if goal not in numbers:
                    numbers[goal] = len(numbers)
                    longer.append(goal)
        row = longer
    return numbers


def _numbered_from(letters, rows, kinds, start):
    """The machine of the places that are come to from this one, numbered as come to from it."""
    numbers = _met_from(rows, start)
    made = [[numbers[goal] for goal in rows[place]] for place in numbers]
    return Machine(letters, made, [kinds[place] for place in numbers])


def _paired(one, other):
    """The rows of the paired machine, and the pairs that are its places."""
    if not isinstance(other, Machine):
        raise InvalidMachine(other)
    need_same_letters(one, other)
    one_rows, other_rows = one.rows(), other.rows()
    numbers = {(0, 0): 0}
    rows = []
    waiting = [(0, 0)]
    while waiting:
        longer = []
        for place, other_place in waiting:
            row = []
            for pair in zip(one_rows[place], other_rows[other_place]):
                if pair not in numbers:
                    numbers[pair] = len(numbers)
                    longer.append(pair)
                row.append(numbers[pair])
            rows.append(row)
        waiting = longer
    return rows, list(numbers)


def _kinds_of(one, other, pairs):
    """The kinds of both places of each pair."""
    kinds, other_kinds = one.kinds(), other.kinds()
    return [(kinds[place], other_kinds[other_place]) for place, other_place in pairs]
