"""Machines that are told by parts, and spoilers, which show that a machine is not."""

from missedparts.basics import is_over
from missedparts.machines import alike_classes, first_texts, need_places, parting

MOST_BY_PARTS = 5


def is_by_parts(machine):
    """Whether the machine and its contrary share no product."""
    return spoiler(machine) is None


def spoiler(machine):
    """A spoiler of the machine; None if there is none."""
    need_places(machine, MOST_BY_PARTS)
    least = machine.least()
    for place in range(len(least)):
        found = _round(least, place) or _fork(least, place)
        if found:
            return found
    return None


def _round(least, place):
    """A spoiler by which one comes from the place of a least machine to another one and back; None."""
    rows = least.rows()
    for goal, on in first_texts(least.letters, rows, place).items():
        back = first_texts(least.letters, rows, goal).get(place)
        if goal != place and back is not None:
            return "round", least.first_text(place), on, back, parting(least.at(place), least.at(goal))
    return None


def _fork(least, place):
    """A spoiler by which one comes from the place of a least machine to two others where one stays; None."""
    for stay in _some_of(least.letters):
        columns = [least.letters.index(letter) for letter in stay]
        rows = [[row[column] for column in columns] for row in least.rows()]
        texts = first_texts(stay, rows, place)
        stays = [goal for goal in texts if rows[goal] == [goal] * len(stay)]
        if len(stays) > 1:
            left, right = stays[:2]
            apart = parting(least.at(left), least.at(right))
            return "fork", least.first_text(place), stay, texts[left], texts[right], apart
    return None


def _some_of(letters):
    """The list of the texts of one or more unlike ones of the letters, rising."""
    found = [""]
    for letter in letters:
        found = found + [text + letter for text in found]
    return found[1:]


def is_spoiler(machine, value):
    """Whether any value is a spoiler of the machine."""
    need_places(machine, MOST_BY_PARTS)
    if not isinstance(value, tuple) or len(value) == 0:
        return False
    if not all([is_over(text, machine.letters) for text in value[1:]]):
        return False
    if value[0] == "round" and len(value) == 5:
        return _is_round(machine, value)
    if value[0] == "fork" and len(value) == 6:
        return _is_fork(machine, value)
    return False


def _is_round(machine, value):
    """Whether texts over the letters make a spoiler of the first shape."""
    _, to, on, back, apart = value
    classes = alike_classes(machine.rows(), machine.kinds())
    place = machine.goes(0, to)
    goal = machine.goes(place, on)
    if classes[place] == classes[goal] or classes[place] != classes[machine.goes(goal, back)]:
        return False
    return machine.takes(to + apart) != machine.takes(to + on + apart)


def _is_fork(machine, value):
    """Whether texts over the letters make a spoiler of the second shape."""
    _, to, stay, left, right, apart = value
    if stay not in _some_of(machine.letters) or not is_over(left, stay) or not is_over(right, stay):
        return False
    classes = alike_classes(machine.rows(), machine.kinds())
    for text in (to + left, to + right):
        place = machine.goes(0, text)
        if not all([classes[machine.goal(place, letter)] == classes[place] for letter in stay]):
            return False
    return machine.takes(to + left + apart) != machine.takes(to + right + apart)
