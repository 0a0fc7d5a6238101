"""Lines on which letters are missed or mixed up: what can be heard of texts, and what a line must not mix up."""

from missedparts.basics import are_letters, is_over
from missedparts.errors import InvalidLetters, InvalidLine
from missedparts.machines import (
    Marks, is_same, least_of, least_of_both, met_from, need_places, need_text, need_two,
)

MOST_IN_LINE = 5


def is_line(letters, value):
    """Whether any value is a line over these letters."""
    if not are_letters(letters):
        raise InvalidLetters(letters)
    return is_line_over(letters, value)


def heard(machine, line):
    """The least machine that takes just the texts that can be heard of texts that the machine takes."""
    _need_line(machine, line)
    need_places(machine, MOST_IN_LINE)
    return heard_machine(machine, line)


def first_told(machine, line, text):
    """The least text that the machine takes and that can be heard as this one; None if there is none."""
    _need_line(machine, line)
    need_text(text, machine.letters)
    need_places(machine, MOST_IN_LINE)
    return told_text(machine, line, text)


def is_clear(one, other, line):
    """Whether no text can be heard of texts of both machines."""
    _need_two_on(one, other, line)
    return is_clear_line(one, other, line)


def muddle(one, other, line):
    """The least text that can be heard of texts of both machines; None if the line is clear."""
    _need_two_on(one, other, line)
    return least_of_both(heard_machine(one, line), heard_machine(other, line))


def are_alike(one, other, line):
    """Whether the same texts can be heard of both machines."""
    _need_two_on(one, other, line)
    return is_same(heard_machine(one, line), heard_machine(other, line))


def cuts(one, other, line):
    """The sorted list of all sorted tuples of the fewest hearings without which the line is clear; None."""
    _need_two_on(one, other, line)
    hearings = sorted([(letter, hearing) for letter in one.letters for hearing in line[letter]])
    row = [()]
    while row:
        found = [cut for cut in row if is_clear_line(one, other, _without(line, cut))]
        if found:
            return found
        row = [cut + (hearing,) for cut in row for hearing in hearings if _can_be_cut(line, cut, hearing)]
    return None


def is_line_over(letters, value):
    """Whether any value is a line over these letters, which are so."""
    if not isinstance(value, dict) or len(value) != len(letters):
        return False
    return all([letter in value and _are_hearings(letters, value[letter]) for letter in letters])


def heard_machine(machine, line):
    """The least machine that takes just the texts that can be heard, for so few places that no error is needed."""
    letters = machine.letters
    marks = Marks(machine)
    missed = _heard_as(letters, line, "")
    told = [_heard_as(letters, line, hearing) for hearing in letters]

    def goals_of(places):
        return [marks.stayed(marks.led_by_some(places, indices), missed) for indices in told]

    sets, rows = met_from(marks.stayed(1, missed), goals_of, None)
    return least_of(letters, rows, [marks.some_take(places) for places in sets], 0)


def told_text(machine, line, text):
    """The least text that a machine of any number of places takes and that can be heard as this one; None."""
    rows, kinds = machine.rows(), machine.kinds()
    # A text has the states, each a place and a position, to which it leads, but no lesser text does. It is told by the
    # number of the text that it makes longer, and by its last letter: texts themselves would be too many letters.
    found = [(None, "", [(0, 0)])]
    met = {(0, 0): True}
    number = 0
    while number < len(found):
        states = found[number][2]
        if any([kinds[place] and position == len(text) for place, position in states]):
            return _text_with(found, number)
        for index, letter in enumerate(machine.letters):
            goals = [row[index] for row in rows]
            behind = [state for state in _told_behind(states, goals, line[letter], text) if state not in met]
            for state in behind:
                met[state] = True
            if behind:
                found.append((number, letter, behind))
        number = number + 1
    return None


def _told_behind(states, goals, hearings, text):
    """The list of the states to which a letter with these goals and these hearings leads from some states."""
    found = {}
    for place, position in states:
        for hearing in hearings:
            if text[position:position + len(hearing)] == hearing:
                found[(goals[place], position + len(hearing))] = True
    return list(found)


def _text_with(found, number):
    """The text with this number."""
    letters = []
    while number is not None:
        number, letter, _ = found[number]
        letters.append(letter)
    return "".join(letters[::-1])


def is_told_as(line, told, text):
    """Whether a text that is told can be heard as another text."""
    heard_at = {letter: sum([1 << at for at, each in enumerate(text) if each == letter]) for letter in line}
    # A number with a bit for each position up to which the other text may have been heard.
    positions = 1
    for letter in told:
        behind = 0
        for hearing in line[letter]:
            behind = behind | ((positions & heard_at[hearing]) << 1 if hearing else positions)
        positions = behind
    return positions >> len(text) & 1 == 1


def is_clear_line(one, other, line):
    """The same as is_clear for machines of any number of places."""
    goals, other_goals = _heard_goals(one, line), _heard_goals(other, line)
    kinds, other_kinds = one.kinds(), other.kinds()
    met = {(0, 0): True}
    waiting = [(0, 0)]
    while waiting:
        place, other_place = waiting.pop()
        if kinds[place] and other_kinds[other_place]:
            return False
        mine, theirs = goals[place], other_goals[other_place]
        pairs = [(goal, other_place) for goal in mine[""]] + [(place, goal) for goal in theirs[""]]
        for hearing in one.letters:
            pairs.extend([(goal, other_goal) for goal in mine[hearing] for other_goal in theirs[hearing]])
        for pair in pairs:
            if pair not in met:
                met[pair] = True
                waiting.append(pair)
    return True


def _heard_goals(machine, line):
    """For each place a dict from each hearing to the list of the places to which letters lead that are heard so."""
    letters = machine.letters
    indices = {hearing: _heard_as(letters, line, hearing) for hearing in [""] + list(letters)}
    return [{hearing: [row[index] for index in indices[hearing]] for hearing in indices} for row in machine.rows()]


def _heard_as(letters, line, hearing):
    """The indices of the letters that can be heard so."""
    return [index for index, letter in enumerate(letters) if hearing in line[letter]]


def _without(line, cut):
    """The line without these hearings."""
    return {letter: [hearing for hearing in line[letter] if (letter, hearing) not in cut] for letter in line}


def _can_be_cut(line, cut, hearing):
    """Whether a hearing behind those of a cut can be taken out as well, so that its letter keeps one."""
    if cut and hearing <= cut[-1]:
        return False
    return len([each for each in cut if each[0] == hearing[0]]) + 1 < len(line[hearing[0]])


def _are_hearings(letters, value):
    """Whether any value is a list of one or more unlike hearings."""
    if not isinstance(value, (list, tuple)) or len(value) == 0:
        return False
    for position, hearing in enumerate(value):
        if not is_over(hearing, letters) or len(hearing) > 1 or hearing in value[:position]:
            return False
    return True


def _need_line(machine, value):
    """Raise InvalidLine unless the value is a line over the letters of the machine."""
    if not is_line_over(machine.letters, value):
        raise InvalidLine(value)


def _need_two_on(one, other, line):
    """Raise the first error that there is with two machines and a line over the letters of the one."""
    _need_line(one, line)
    need_two(one, other, MOST_IN_LINE)
