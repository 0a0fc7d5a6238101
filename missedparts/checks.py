"""Tests of texts by their parts: what fits them, the machines of what fits, and what parts two machines."""

from missedparts.basics import are_letters, is_over, is_text
from missedparts.codes import worked_out
from missedparts.errors import InvalidLetters, InvalidLevels, InvalidTest, InvalidText, TooMany
from missedparts.letters import taken_texts
from missedparts.machines import Machine, Marks, least_of, need_same_letters
from missedparts.parts import is_part
from missedparts.sums import Sum

MOST_IN_TEST = 6
MOST_TESTED = 20
# How many states are looked at as they come, and with how many others each one is compared.
MOST_TRIED = 4000
MOST_COMPARED = 16
# What each text fits, and what none does.
ALWAYS = ("all", ())
NEVER = ("any", ())


def is_test(value):
    """Whether any value is a test."""
    if not isinstance(value, tuple) or len(value) != 2 or not isinstance(value[0], str):
        return False
    word, about = value
    if word == "part":
        return is_text(about)
    if word == "not":
        return is_test(about)
    return word in ("all", "any") and isinstance(about, tuple) and all([is_test(each) for each in about])


def fits(test, text):
    """Whether the text fits the test."""
    _need_test(test)
    if not is_text(text):
        raise InvalidText(text)
    return _fits(test, {part: is_part(part, text) for part in texts_in(test)})


def letters_of(test):
    """How many letters the longest text of the test has; 0 if it has none."""
    _need_test(test)
    return max([len(text) for text in texts_in(test)], default=0)


def test_machine(letters, test):
    """The least machine that takes just the texts over the letters that fit the test."""
    if not are_letters(letters):
        raise InvalidLetters(letters)
    _need_test(test)
    _need_small(test)
    reading = Reading(test, letters)
    classes = Classes(Machine.MOST_PLACES)

    def goals_of(state):
        return [reading.behind(state, letter) for letter in letters] if reading.worth(state) is None else []

    def answer_of(state, goals, answers):
        numbers = [None if goal == state else answers[goal] for goal in goals]
        return classes.class_of(reading.fits_at(state), numbers or [None] * len(letters))

    start = worked_out(reading.start(), goals_of, answer_of)
    if start is None:
        raise TooMany("places", Machine.MOST_PLACES)
    return classes.machine(letters, start)


def does_part(one, other, test):
    """Whether all texts that the one machine takes fit the test, and none that the other one takes."""
    _need_test(test)
    need_same_letters(one, other)
    _need_small(test)
    return is_parted_by(one, other, test)


def test_of(sums):
    """A test that a text fits exactly if the number of the sums that have it is odd."""
    _need_levels(sums)
    rings = []
    outs = [("any", tuple([("part", text) for text in some.least_out()])) for some in sums] + [ALWAYS]
    # As each sum lies within the one before, what is in an odd number of them is out of the one that follows.
    for at in range(0, len(outs) - 1, 2):
        rings.append(("all", (("not", outs[at]), outs[at + 1])))
    return ("any", tuple(rings))


def is_parted_by(one, other, test):
    """The same as does_part for any test and two machines with the same letters."""
    return not _does_some_fit(one, ("not", test)) and not _does_some_fit(other, test)


def test_by_letters(one, other, number):
    """A test of at most so many letters that parts both machines, if so many part them."""
    texts = [""]
    for _ in range(number):
        texts = [""] + [text + letter for text in texts for letter in one.letters]
    return _told_apart(_known_parts(one, number, texts), _known_parts(other, number, texts), texts)


def texts_in(test):
    """The list of the unlike texts of a test."""
    return list(_wanted_in(test))


def _wanted_in(test):
    """For each text of a test a dict of True for each way in which it helps: True to be a part, False to be none."""
    found = {}
    waiting = [(test, True)]
    while waiting:
        (word, about), wanted = waiting.pop()
        if word == "part":
            found.setdefault(about, {})[wanted] = True
        elif word == "not":
            waiting.append((about, not wanted))
        else:
            waiting.extend([(each, wanted) for each in about])
    return found


class Reading:
    """How far letters that come one by one have met the texts of a test; a state has a position in each of them.

    Texts with other letters are never met.
    """

    def __init__(self, test, letters):
        self._test = test
        wanted = _wanted_in(test)
        self._texts = [text for text in wanted if is_over(text, letters)]
        self._never = {text: False for text in wanted if not is_over(text, letters)}
        self._more_helps = [True in wanted[text] for text in self._texts]
        self._less_helps = [False in wanted[text] for text in self._texts]

    def start(self):
        """The state ahead of all letters."""
        return tuple([0 for _ in self._texts])

    def last(self):
        """The sum of the positions where all texts are met."""
        return sum([len(text) for text in self._texts])

    def behind(self, state, letter):
        """The state behind one letter more."""
        return tuple([at + 1 if text[at:at + 1] == letter else at for at, text in zip(state, self._texts)])

    def fits_at(self, state):
        """Whether texts that lead to the state fit the test."""
        return _fits(self._test, self._known(state, False))

    def worth(self, state):
        """The same as far as it is plain whatever letters follow; None otherwise, though perhaps none changes it."""
        return _fits(self._test, self._known(state, None))

    def is_no_better(self, state, other):
        """Whether all texts that make the test fit behind the one state do so behind the other one, too."""
        if any([helps and at > other_at for helps, at, other_at in zip(self._more_helps, state, other)]):
            return False
        return not any([helps and at < other_at for helps, at, other_at in zip(self._less_helps, state, other)])

    def _known(self, state, still):
        """Which texts are parts, where for those that may still be met another value stands."""
        known = {text: True if at == len(text) else still for at, text in zip(state, self._texts)}
        return {**self._never, **known}


def _fits(test, known):
    """Whether a test fits if these texts are parts, and these not; None if that hangs on texts known as None."""
    word, about = test
    if word == "part":
        return known[about]
    if word == "not":
        inner = _fits(about, known)
        return None if inner is None else not inner
    # One that lacks makes all lack, and one that fits makes any fit, whatever the others are.
    last = word == "any"
    found = not last
    for each in about:
        inner = _fits(each, known)
        if inner == last:
            return last
        if inner is None:
            found = None
    return found


class Classes:
    """The classes of alike places of a machine in which letters lead only on, or to the place itself.

    Each place is put into its class behind the places to which it leads; so the classes are known as they are met.
    """

    def __init__(self, most):
        self._most = most
        self._goals = []
        self._takes = []
        self._known = {}

    def class_of(self, kind, goals):
        """The class of a place with this kind and these goals, told by their classes, None being the place itself.

        None if there are too many classes.
        """
        for number in goals:
            if number is not None and self._takes[number] == kind:
                if self._goals[number] == [number if goal is None else goal for goal in goals]:
                    return number
        sign = (kind, tuple(goals))
        if sign not in self._known:
            number = len(self._goals)
            if number == self._most:
                return None
            self._known[sign] = number
            self._goals.append([number if goal is None else goal for goal in goals])
            self._takes.append(kind)
        return self._known[sign]

    def machine(self, letters, start):
        """The least machine that begins at this class."""
        return least_of(letters, self._goals, self._takes, start)


def _does_some_fit(machine, test):
    """Whether a text that the machine takes fits the test."""
    reading = Reading(test, machine.letters)
    found = _is_soon_found(machine, reading)
    return _is_found(machine, reading) if found is None else found


def _is_soon_found(machine, reading):
    """The same as _is_found if it is known behind a few states, which are looked at far ahead first; None if not.

    A place need not be looked at behind a state that is no better than another one behind which it is.
    """
    rows, kinds = machine.rows(), machine.kinds()
    ends = [machine.at(place).first_taken() is not None for place in range(len(machine))]
    known = [[] for _ in rows]
    known[0].append(reading.start())
    waiting = [(0, reading.start())]
    for _ in range(MOST_TRIED):
        if not waiting:
            return False
        place, state = waiting.pop()
        worth = reading.worth(state)
        if ends[place] and worth or kinds[place] and reading.fits_at(state):
            return True
        if ends[place] and worth is None:
            for letter, goal in zip(machine.letters, rows[place]):
                behind = reading.behind(state, letter)
                others = known[goal][:MOST_COMPARED] + known[goal][-MOST_COMPARED:]
                if not any([reading.is_no_better(behind, other) for other in others]):
                    known[goal].append(behind)
                    waiting.append((goal, behind))
    return None


def _is_found(machine, reading):
    """Whether a text that the machine takes fits the test that is read."""
    marks = Marks(machine)
    layers = [{} for _ in range(reading.last() + 1)]
    layers[0][reading.start()] = 1
    # Letters that meet no more of the texts stay in the layer; all others lead to a later one.
    for layer in range(len(layers)):
        for state, places in list(layers[layer].items()):
            goals = [reading.behind(state, letter) for letter in machine.letters]
            places = marks.stayed(places, [index for index, goal in enumerate(goals) if goal == state])
            worth = reading.worth(state)
            if worth and marks.some_take(marks.stayed(places, list(range(len(goals))))):
                return True
            if worth is None:
                if marks.some_take(places) and reading.fits_at(state):
                    return True
                for index, goal in enumerate(goals):
                    if goal != state:
                        there = layers[sum(goal)]
                        there[goal] = there.get(goal, 0) | marks.led(places, index)
    return False


def _known_parts(machine, number, texts):
    """For each set of parts that a taken text has, of at most so many letters, whether each of the texts is in it."""
    found = []
    for taken in taken_texts(machine, number).values():
        found.append({text: is_part(text, taken) for text in texts})
    return found


def _told_apart(mine, theirs, texts):
    """A test that fits all of the one list of known parts, and none of the other one; each has all of the texts."""
    if not theirs:
        return ALWAYS
    if not mine:
        return NEVER
    # The text by which the most pairs are told apart leaves small lists, so that few tests are needed.
    text = max(texts, key=lambda each: _pairs_apart(mine, theirs, each))
    having = _told_apart([row for row in mine if row[text]], [row for row in theirs if row[text]], texts)
    lacking = _told_apart([row for row in mine if not row[text]], [row for row in theirs if not row[text]], texts)
    return _chosen(("part", text), having, lacking)


def _pairs_apart(mine, theirs, text):
    """How many pairs of one of each list the text tells apart."""
    my_parts = sum([row[text] for row in mine])
    their_parts = sum([row[text] for row in theirs])
    return my_parts * (len(theirs) - their_parts) + (len(mine) - my_parts) * their_parts


def _chosen(test, having, lacking):
    """A test that is the one where the first test fits, and the other one where it does not."""
    if having == lacking:
        return having
    first = test if having == ALWAYS else ("all", (test, having))
    second = ("not", test) if lacking == ALWAYS else ("all", (("not", test), lacking))
    if lacking == NEVER:
        return first
    return second if having == NEVER else ("any", (first, second))


def _need_test(value):
    """Raise InvalidTest unless the value is a test."""
    if not is_test(value):
        raise InvalidTest(value)


def _need_small(test):
    """Raise TooMany if the test has more letters, or more unlike texts, than can be followed."""
    if letters_of(test) > MOST_IN_TEST:
        raise TooMany("letters", MOST_IN_TEST)
    if len(texts_in(test)) > MOST_TESTED:
        raise TooMany("texts", MOST_TESTED)


def _need_levels(value):
    """Raise InvalidLevels unless the value is a list of sums with the same letters, each within the one before."""
    if not isinstance(value, (list, tuple)) or len(value) == 0:
        raise InvalidLevels(None)
    for position, some in enumerate(value):
        if not isinstance(some, Sum) or some.letters != value[0].letters:
            raise InvalidLevels(position)
        if position > 0 and not some.is_within(value[position - 1]):
            raise InvalidLevels(position)
