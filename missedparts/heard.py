"""What is sure, or may be so, behind a text that was heard, where any letters may have been missed or added."""

from missedparts.basics import is_over
from missedparts.closures import least_whole, web_of
from missedparts.codes import kept_from, letter_codes, worked_out
from missedparts.errors import InvalidTexts, NeverHeard, TooMany
from missedparts.machines import Marks, first_texts, need_places, need_text, need_two
from missedparts.sums import Sum, sum_of

MOST_HEARD = 4
MOST_ALARMS = 200
MOST_AT_ONCE = 3


def can_be_heard(told, text):
    """Whether the text is a part of a text that told takes."""
    need_text(text, told.letters)
    need_places(told, MOST_HEARD)
    return is_heard(told, text)


def sure(told, wish, text):
    """Whether wish takes each text that told takes and that has the text as a part."""
    _need_heard(told, wish, text)
    return not is_heard(told - wish, text)


def maybe(told, wish, text):
    """Whether wish takes at least one text that told takes and that has the text as a part."""
    _need_heard(told, wish, text)
    return is_heard(told & wish, text)


def unsure(told, wish, text):
    """The least text that told takes and wish does not, of which the text is a part; None if there is none."""
    _need_heard(told, wish, text)
    return told_whole(told - wish, text)


def first_sure(told, wish, text):
    """How many letters the shortest begin of the text has behind which wish is sure; None if it is behind none."""
    _need_heard(told, wish, text)
    web = down_web(told - wish)
    nodes = web.start()
    for number, code in enumerate(letter_codes(text)):
        if nodes == 0:
            return number
        nodes = web.led(nodes, code)
    return len(text) if nodes == 0 else None


def alarms(told, wish):
    """The sorted list of the least texts behind which wish is sure."""
    need_two(told, wish, MOST_HEARD)
    heard, apart = down_web(told), down_web(told - wish)
    codes = letter_codes(told.letters)

    def goals_of(state):
        goals = [(apart.led(state[0], code), heard.led(state[1], code)) for code in codes]
        # A letter that leaves as much unsure as there was begins no least text.
        return [goal if goal[1] and goal[0] != state[0] else None for goal in goals]

    def answer_of(state, goals, answers):
        behind = [(letter, answers[goal]) for letter, goal in zip(told.letters, goals) if goal is not None]
        return _alarms_at(apart, state[0], behind)

    if heard.start() == 0:
        return []
    found = worked_out((apart.start(), heard.start()), goals_of, answer_of)
    if found is None:
        raise TooMany("texts", MOST_ALARMS)
    return sorted(found, key=lambda text: (len(text), text))


def sure_of_all(told, wish, texts):
    """Whether wish takes each text that told takes and of which all of these texts are parts."""
    _need_texts(told, texts)
    need_two(told, wish, MOST_HEARD)
    if not _takes_whole_of(told, texts):
        raise NeverHeard(texts)
    return not _takes_whole_of(told - wish, texts)


def sure_added(told, wish, text):
    """Whether wish takes each text that told takes and that is a part of the text."""
    need_text(text, told.letters)
    need_two(told, wish, MOST_HEARD)
    if not _takes_part_of(told, text):
        raise NeverHeard(text)
    return not _takes_part_of(told - wish, text)


def never_added(told):
    """The sum of the texts of which no text that told takes is a part."""
    need_places(told, MOST_HEARD)
    marks = Marks(told)

    def goals_of(places):
        goals = [places | marks.led(places, index) for index in range(len(told.letters))]
        return [None if marks.some_take(goal) else goal for goal in goals]

    # If all is a whole of a text that told takes, not even the empty text is left.
    if marks.some_take(1):
        return Sum(told.letters, [])
    return sum_of(told.letters, kept_from(1, letter_codes(told.letters), goals_of, Sum.MOST_PRODUCTS))


def down_web(machine):
    """The web of all parts of texts that the machine takes."""
    return web_of(machine, Sum.whole(machine.letters).codes()[0])


def is_heard(machine, text):
    """Whether a text over the letters is a part of a text that a machine of any number of places takes."""
    return down_web(machine).has_product(letter_codes(text))


def told_whole(machine, text):
    """The least text that a machine of any number of places takes and of which the text is a part; None."""
    return least_whole(machine, Sum.whole(machine.letters), text)


def _alarms_at(apart, nodes, behind):
    """The least texts that lead the web to no node, from those behind each letter; None if there are too many.

    That they are never fewer than those behind one of the letters lets this stop early.
    """
    if nodes == 0:
        return [""]
    found = []
    for letter, texts in behind:
        found.extend([letter + text for text in texts if apart.behind(nodes, letter_codes(text))])
    return None if len(found) > MOST_ALARMS else found


def _takes_whole_of(machine, texts):
    """Whether the machine takes a text of which all of these texts are parts.

    In a group of places that lead to one another one may read its letters as often as one likes. So a state has a
    place, and for each text how far it is met at most.
    """
    rows, kinds = machine.rows(), machine.kinds()
    stays = _stays(rows, machine.letters)
    last = tuple([len(text) for text in texts])
    start = (0, tuple([_met_in(text, 0, stays[0]) for text in texts]))
    met = {start: True}
    waiting = [start]
    while waiting:
        place, positions = waiting.pop()
        if kinds[place] and positions == last:
            return True
        for letter, goal in zip(machine.letters, rows[place]):
            steps = [at + 1 if text[at:at + 1] == letter else at for text, at in zip(texts, positions)]
            state = (goal, tuple([_met_in(text, at, stays[goal]) for text, at in zip(texts, steps)]))
            if state not in met:
                met[state] = True
                waiting.append(state)
    return False


def _stays(rows, letters):
    """For each place the list of the letters that can be read on ways from it back to it."""
    reached = [first_texts(letters, rows, place) for place in range(len(rows))]
    found = []
    for place in range(len(rows)):
        group = [other for other in reached[place] if place in reached[other]]
        goals = [[rows[other][index] for other in group] for index in range(len(letters))]
        found.append([letter for letter, row in zip(letters, goals) if any([goal in group for goal in row])])
    return found


def _met_in(text, at, letters):
    """The position behind the letters of the text that come from a position on, as long as they are of these."""
    while at < len(text) and text[at] in letters:
        at = at + 1
    return at


def _takes_part_of(machine, text):
    """Whether the machine takes a part of the text."""
    marks = Marks(machine)
    places = 1
    for letter in text:
        places = places | marks.led(places, machine.letters.index(letter))
    return marks.some_take(places)


def _need_heard(told, wish, text):
    """Raise the first error that there is with a text that was heard."""
    need_text(text, told.letters)
    need_two(told, wish, MOST_HEARD)
    if not is_heard(told, text):
        raise NeverHeard(text)


def _need_texts(told, value):
    """Raise InvalidTexts unless the value is a list of one to three texts over the letters."""
    if not isinstance(value, (list, tuple)) or not 1 <= len(value) <= MOST_AT_ONCE:
        raise InvalidTexts(None)
    for position, text in enumerate(value):
        if not is_over(text, told.letters):
            raise InvalidTexts(position)
