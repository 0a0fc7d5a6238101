"""A desk with two machines on it, of which each change can be taken back."""

from missedparts.basics import is_over
from missedparts.edits import redirected, turned
from missedparts.errors import (
    CommandFailed, InvalidCommand, InvalidMachine, InvalidPlace, LimitError, NothingToUndo, PartsError, StateError,
)
from missedparts.levels import depth, levels
from missedparts.machines import Machine, is_place, need_same_letters
from missedparts.texts import number_in

MOST_LEVELS = 24
# What stands behind the word of each command.
FORMS = {
    "depth": (), "takes": ("text",), "level": ("level", "text"), "turn": ("which", "place"),
    "lead": ("which", "place", "letter", "place"), "swap": (), "undo": (),
}


class Desk:
    """Two machines with the same letters, one and other, and what was done to them."""

    def __init__(self, one, other):
        for machine in (one, other):
            if not isinstance(machine, Machine):
                raise InvalidMachine(machine)
        need_same_letters(one, other)
        # Attributes, no properties: OtherLetters, which signs raise, assigns attributes of the same names.
        self.one = one
        self.other = other
        # Both machines as they were ahead of each change. The list itself never changes, so that it can be kept.
        self._past = []

    def __getitem__(self, text):
        by_one, by_other = self.one.takes(text), self.other.takes(text)
        if by_one and by_other:
            return "both"
        if by_one:
            return "one"
        return "other" if by_other else "none"

    def __iter__(self):
        raise TypeError("a desk is not iterated over")

    def __contains__(self, value):
        return value in self.one or value in self.other

    def __len__(self):
        return len(self._past)

    def __iadd__(self, machine):
        self._change(self.one | machine, self.other)
        return self

    def __isub__(self, machine):
        self._change(self.one - machine, self.other)
        return self

    def turn(self, which, place):
        """The place of this machine gets the other kind."""
        machine = self._which(which)
        if not is_place(place, len(machine)):
            raise InvalidPlace(place)
        self._change_which(which, turned(machine, [place]))

    def lead(self, which, place, letter, goal):
        """The step of this machine from the place by the letter gets this goal."""
        self._change_which(which, redirected(self._which(which), place, letter, goal))

    def swap(self):
        """One becomes other, and other one."""
        self._change(self.other, self.one)

    def undo(self):
        """Take the last change back."""
        if not self._past:
            raise NothingToUndo()
        self.one, self.other = self._past[-1]
        self._past = self._past[:-1]

    def do(self, command):
        """The answer to a command."""
        words = command.split(" ") if isinstance(command, str) else [""]
        form = FORMS.get(words[0])
        if form is None or len(words) != len(form) + 1:
            raise InvalidCommand(command)
        values = [_value_of(kind, word, self.one.letters) for kind, word in zip(form, words[1:])]
        if any([value is None for value in values]):
            raise InvalidCommand(command)
        if words[0] == "depth":
            many = depth(self.one, self.other)
            return "endless" if many is None else str(many)
        if words[0] == "takes":
            return self[values[0]]
        if words[0] == "level":
            return "yes" if self._is_in_level(values[0], values[1]) else "no"
        self._do_change(words[0], values)
        return "done"

    def do_all(self, *commands):
        """The list of the answers to some commands; if one fails, none has an effect."""
        one, other, past = self.one, self.other, self._past
        answers = []
        for position, command in enumerate(commands):
            try:
                answers.append(self.do(command))
            except (PartsError, StateError, LimitError) as error:
                self.one, self.other, self._past = one, other, past
                raise CommandFailed(position) from error
        return answers

    def _do_change(self, word, values):
        if word == "turn":
            self.turn(values[0], values[1])
        elif word == "lead":
            self.lead(values[0], values[1], values[2], values[3])
        elif word == "swap":
            self.swap()
        else:
            self.undo()

    def _is_in_level(self, number, text):
        found = levels(self.one, self.other)
        return found is not None and number <= len(found) and text in found[number - 1]

    def _which(self, value):
        """The machine that is called so."""
        if not _is_which(value):
            raise InvalidCommand(value)
        return self.one if value == "one" else self.other

    def _change_which(self, which, machine):
        if which == "one":
            self._change(machine, self.other)
        else:
            self._change(self.one, machine)

    def _change(self, one, other):
        self._past = self._past + [(self.one, self.other)]
        self.one = one
        self.other = other


class Trial:
    """A block behind which a desk is as it was ahead of it, also if an error leaves it."""

    def __init__(self, desk):
        self._desk = desk
        self._one = None
        self._other = None
        self._past = None

    def __enter__(self):
        desk = self._desk
        self._one = desk.one
        self._other = desk.other
        self._past = desk._past
        return desk

    def __exit__(self, kind, value, trace):
        desk = self._desk
        desk.one = self._one
        desk.other = self._other
        desk._past = self._past


def tried(desk, action):
    """What the action, a function, returns for the desk, which is behind it as it was ahead."""
    with Trial(desk) as held:
        return action(held)


def _is_which(value):
    return isinstance(value, str) and value in ("one", "other")


def _value_of(kind, word, letters):
    """What a word of a command means; None if it is not of its kind."""
    if kind == "text":
        if word == "-":
            return ""
        return word if word != "" and is_over(word, letters) else None
    if kind == "which":
        return word if _is_which(word) else None
    if kind == "letter":
        return word if len(word) == 1 and word in letters else None
    number = number_in(word)
    if kind == "level" and number is not None and not 1 <= number <= MOST_LEVELS:
        return None
    return number
