"""What may be left of the texts that a machine takes, and what is sure behind them."""

from missedparts.codes import (
    STAR, behind_letter, goal_in, goes_into, goes_into_some, kept_codes, kept_from, letter_codes,
)
from missedparts.errors import TooMany
from missedparts.machines import need_places, need_same_letters, need_text
from missedparts.parts import is_part
from missedparts.sums import Sum, sum_of

MOST_CLOSED = 6
MOST_TAKEN = 200
# How many products are looked at one by one; more are told by all webs together, which takes longer, but ends early.
MOST_ALONE = 400


class Web:
    """The parts of all texts that lead from node 0 to an end, by steps from node to node.

    The steps are, for each node, a list of pairs of a letter, as code, and the node to which it leads; a step with
    the code 0 needs no letter. As any letters may be missed, one may stand at all nodes that are led to: such a set
    of nodes is a number with a bit for each of them. Nodes from which no end is come to are left out.
    """

    def __init__(self, letters, steps, ends):
        self._codes = letter_codes(letters)
        self._reached = _gathered(steps, [1 << node for node in range(len(steps))])
        last = _joint([1 << node for node in ends])
        live = _joint([1 << node for node in range(len(steps)) if self._reached[node] & last])
        self._start = self._reached[0] & live
        self._behind = {}
        for code in self._codes:
            goals = [[self._reached[goal] for step, goal in row if step == code] for row in steps]
            self._behind[code] = _gathered(steps, [_joint(row) & live for row in goals])

    def start(self):
        """The nodes where one may stand ahead of all letters."""
        return self._start

    def led(self, nodes, code):
        """The nodes where one may stand behind a letter."""
        behind = self._behind[code]
        found = 0
        while nodes:
            low = (nodes & -nodes).bit_length() - 1
            found = found | behind[low]
            nodes = nodes & ~self._reached[low]
        return found

    def has_product(self, codes):
        """Whether all texts of a product over the letters are such parts."""
        return self.behind(self._start, codes) != 0

    def behind(self, nodes, codes):
        """The nodes where one may stand behind any text of a product."""
        for code in codes:
            if code & STAR:
                nodes = self._led_for_ever(nodes, code)
            else:
                nodes = self.led(nodes, code)
        return nodes

    def _led_for_ever(self, nodes, star):
        """The nodes where one may stand behind the letters of a star, read as often as one likes."""
        letters = [code for code in self._codes if code & star]
        # The nodes become fewer, or stay what they are for ever.
        found = -1
        while found != nodes:
            found = nodes
            for code in letters:
                nodes = self.led(nodes, code)
        return nodes


def _joint(masks):
    """The set of all nodes that are in one of these sets."""
    found = 0
    for mask in masks:
        found = found | mask
    return found


def _gathered(steps, masks):
    """For each node the nodes of its own set and of those of all nodes that one comes to from there."""
    found = list(masks)
    before = []
    # Most steps lead to later nodes, so from the end on a few rounds do.
    while before != found:
        before = list(found)
        for node in range(len(steps) - 1, -1, -1):
            found[node] = found[node] | _joint([found[goal] for _, goal in steps[node]])
    return found


def kept_of_webs(webs, letters, most):
    """The kept products of the texts that are in at least one of these webs; None if they are more than most."""
    codes = letter_codes(letters)

    def goals_of(state):
        goals = [tuple([web.led(nodes, code) for web, nodes in zip(webs, state)]) for code in codes]
        return [goal if any(goal) else None for goal in goals]

    start = tuple([each.start() for each in webs])
    return kept_from(start, codes, goals_of, most) if any(start) else []


def web_of(machine, codes):
    """The web of the texts that the machine takes and that are texts of the product."""
    many = len(machine)
    steps = []
    for at in range(len(codes) + 1):
        steps.extend(_steps_at(machine, codes, at))
    last = [place for place, kind in enumerate(machine.kinds()) if kind]
    return Web(machine.letters, steps, [at * many + place for at in range(len(codes) + 1) for place in last])


def _steps_at(machine, codes, at):
    """The steps from all places, taken together with a position in a product."""
    many = len(machine)
    rows = []
    for place, goals in enumerate(machine.rows()):
        row = []
        for code, goal in zip(letter_codes(machine.letters), goals):
            position = goal_in(codes, at, code)
            if position is not None:
                row.append((code, position * many + goal))
        if at < len(codes):
            # Further on in a product there is nothing that could not be read from here: so equal sets are told alike.
            row.append((0, (at + 1) * many + place))
        rows.append(row)
    return rows


def under(machine, some):
    """The sum of all parts of texts that the machine takes and that are texts of the sum."""
    _need_closed(machine, some)
    return under_sum(machine, some)


def under_sum(machine, some):
    """The same for machines of any number of places."""
    return sum_of(machine.letters, _under_codes(machine, some.codes(), Sum.MOST_PRODUCTS))


def _under_codes(machine, closed, most):
    """The kept products of what is under a machine and a closed set; None if they are more than most."""
    webs = [web_of(machine, codes) for codes in closed]
    if len(webs) < 2:
        return kept_of_webs(webs, machine.letters, most)
    found = []
    for web in webs:
        # What is under one product alone may be more than most, and yet within a few products of the others.
        kept = kept_of_webs([web], machine.letters, MOST_ALONE)
        if kept is None:
            return kept_of_webs(webs, machine.letters, most)
        found.extend(kept)
    return kept_codes(found, most)


def down(machine):
    """The sum of all parts of texts that the machine takes."""
    need_places(machine, MOST_CLOSED)
    return under_sum(machine, Sum.whole(machine.letters))


def is_under(machine, some, text):
    """Whether the text is a part of one that the machine takes and that is a text of the sum."""
    need_text(text, machine.letters)
    _need_closed(machine, some)
    codes = letter_codes(text)
    return any([goes_into(codes, product) and web_of(machine, product).has_product(codes)
                for product in some.codes()])


def first_whole(machine, some, text):
    """The least text that the machine takes and that is one of the sum, of which the text is a part; None."""
    need_text(text, machine.letters)
    _need_closed(machine, some)
    return least_whole(machine, some, text)


def least_whole(machine, some, text):
    """The same for machines of any number of places."""
    codes = letter_codes(text)
    wholes = [_whole_in(machine, product, text) for product in some.codes() if goes_into(codes, product)]
    return min([whole for whole in wholes if whole is not None], key=lambda whole: (len(whole), whole), default=None)


def _whole_in(machine, codes, text):
    """The least whole of the text that the machine takes and that is a text of the product; None."""
    rows, kinds = machine.rows(), machine.kinds()
    letters = list(zip(machine.letters, letter_codes(machine.letters)))
    start = (0, 0, 0)
    # For each state, from where it was met first, and by which letter: texts themselves would be too many letters.
    met = {start: None}
    row = [start]
    while row:
        longer = []
        for state in row:
            matched, place, at = state
            if matched == len(text) and kinds[place]:
                return _text_to(met, state)
            for (letter, code), goal in zip(letters, rows[place]):
                position = goal_in(codes, at, code)
                step = 1 if text[matched:matched + 1] == letter else 0
                behind = (matched + step, goal, position)
                if position is not None and behind not in met:
                    met[behind] = (state, letter)
                    longer.append(behind)
        row = longer
    return None


def _text_to(met, state):
    """The text by which a state was met first."""
    letters = []
    while met[state] is not None:
        state, letter = met[state]
        letters.append(letter)
    return "".join(letters[::-1])


def is_taken_within(machine, closed, theirs):
    """Whether each text of a closed set that the machine takes is a text of the other closed set."""
    rows, kinds = machine.rows(), machine.kinds()
    codes = letter_codes(machine.letters)
    start = [(0, mine, theirs) for mine in closed if not goes_into_some(mine, theirs)]
    met = {state: True for state in start}
    waiting = list(met)
    behind = {}
    while waiting:
        place, mine, left = waiting.pop()
        if kinds[place] and not left:
            return False
        for code, goal in zip(codes, rows[place]):
            at = goal_in(mine, 0, code)
            if at is not None:
                if (left, code) not in behind:
                    behind[(left, code)] = behind_letter(left, code)
                state = (goal, mine[at:], behind[(left, code)])
                # Nothing is to be looked at where all texts that may follow are still in the other set.
                if state not in met and not goes_into_some(state[1], state[2]):
                    met[state] = True
                    waiting.append(state)
    return True


def up(machine):
    """The sorted list of the least texts that the machine takes."""
    need_places(machine, MOST_CLOSED)
    found = []
    row = [""]
    # A least taken text comes to no place twice.
    for _ in range(len(machine)):
        found.extend([text for text in row if machine.takes(text)])
        if len(found) > MOST_TAKEN:
            raise TooMany("texts", MOST_TAKEN)
        longer = [text + letter for text in row for letter in machine.letters]
        row = [text for text in longer if not any([is_part(least, text) for least in found])]
    return found


def sure_parts(machine):
    """The sum of the texts that are parts of all texts that the machine takes."""
    need_places(machine, MOST_CLOSED)
    steps = _sure_steps(machine)
    web = Web(machine.letters, steps, list(range(len(steps))))
    return sum_of(machine.letters, kept_of_webs([web], machine.letters, Sum.MOST_PRODUCTS))


def _sure_steps(machine):
    """The steps of a web whose nodes are the sets of places where one may stand as soon as a sure part has come.

    A letter goes on with a sure part just if nothing is taken before it comes.
    """
    rows, kinds = machine.rows(), machine.kinds()
    numbers = {(0,): 0}
    waiting = [(0,)]
    steps = []
    while waiting:
        longer = []
        for places in waiting:
            row = []
            for index, code in enumerate(letter_codes(machine.letters)):
                before = _places_without(rows, places, index)
                if not any([kinds[place] for place in before]):
                    goal = tuple(sorted(set([rows[place][index] for place in before])))
                    if goal not in numbers:
                        numbers[goal] = len(numbers)
                        longer.append(goal)
                    row.append((code, numbers[goal]))
            steps.append(row)
        waiting = longer
    return steps


def _places_without(rows, places, index):
    """The list of the places to which texts without one letter lead from these places."""
    met = {place: True for place in places}
    waiting = list(places)
    while waiting:
        row = rows[waiting.pop()]
        for goal in row[:index] + row[index + 1:]:
            if goal not in met:
                met[goal] = True
                waiting.append(goal)
    return list(met)


def _need_closed(machine, some):
    """Raise OtherLetters unless both have the same letters, then TooMany if the machine has too many places."""
    need_same_letters(machine, some)
    need_places(machine, MOST_CLOSED)
