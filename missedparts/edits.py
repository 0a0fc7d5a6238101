"""Machines that are made of others by small changes: letters called otherwise or left out, kinds turned, steps led."""

from missedparts.basics import are_letters
from missedparts.errors import InvalidLetter, InvalidLetters, InvalidPlace, InvalidPlaces
from missedparts.machines import Machine, Marks, is_place, least_of, met_from, need_places

MOST_LEFT_OUT = 8


def renamed(machine, letters):
    """The same machine with these letters in the place of its own, in sequence."""
    if not are_letters(letters) or len(letters) != len(machine.letters):
        raise InvalidLetters(letters)
    return Machine(letters, machine.rows(), machine.kinds())


def left_out(machine, letter):
    """The least machine that takes just the texts that the machine takes, with this letter left out."""
    machine.goal(0, letter)
    if len(machine.letters) == 1:
        raise InvalidLetter(letter)
    need_places(machine, MOST_LEFT_OUT)
    marks = Marks(machine)
    index = machine.letters.index(letter)
    others = [other for other in range(len(machine.letters)) if other != index]

    def goals_of(places):
        return [marks.stayed(marks.led(places, other), [index]) for other in others]

    sets, rows = met_from(marks.stayed(1, [index]), goals_of, None)
    return least_of(machine.letters.replace(letter, ""), rows, [marks.some_take(places) for places in sets], 0)


def mirrored(machine):
    """The least machine that takes just the texts that the machine takes, read from the end."""
    rows = machine.rows()

    def goals_of(places):
        led = [[row[index] in places for row in rows] for index in range(len(machine.letters))]
        return [tuple([place for place, leads in enumerate(row) if leads]) for row in led]

    # As texts lead to each place, no two of these sets are alike: each is a place of the least machine.
    start = tuple([place for place, kind in enumerate(machine.kinds()) if kind])
    sets, made = met_from(start, goals_of, Machine.MOST_PLACES)
    return least_of(machine.letters, made, [0 in places for places in sets], 0)


def turned(machine, places):
    """The machine with the other kind at these places."""
    need_unlike_places(machine, places)
    kinds = [kind != (place in places) for place, kind in enumerate(machine.kinds())]
    return Machine(machine.letters, machine.rows(), kinds)


def redirected(machine, place, letter, goal):
    """The machine with this goal of the step from the place by the letter."""
    machine.goal(place, letter)
    if not is_place(goal, len(machine)):
        raise InvalidPlace(goal)
    rows = machine.rows()
    rows[place][machine.letters.index(letter)] = goal
    return Machine(machine.letters, rows, machine.kinds())


def need_unlike_places(machine, value):
    """Raise InvalidPlaces unless the value is a list of unlike places of the machine."""
    if not isinstance(value, (list, tuple)):
        raise InvalidPlaces(None)
    for position, place in enumerate(value):
        if not is_place(place, len(machine)) or place in value[:position]:
            raise InvalidPlaces(position)
