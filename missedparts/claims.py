"""Claims about machines, whether they are true, and the papers that show it."""

from missedparts.basics import is_count, is_over
from missedparts.byparts import is_by_parts, is_spoiler, spoiler
from missedparts.checks import is_parted_by, is_test, letters_of, test_by_letters
from missedparts.closures import is_taken_within
from missedparts.codes import letter_codes
from missedparts.errors import InvalidClaim
from missedparts.heard import down_web, is_heard, told_whole
from missedparts.letters import alike_pair, is_alike_pair
from missedparts.levels import are_levels, depth, is_ladder, ladder, levels
from missedparts.lines import heard_machine, is_clear_line, is_line_over, is_told_as, told_text
from missedparts.machines import Machine, least_of_both
from missedparts.parts import is_part
from missedparts.shared import do_share, is_shared, some_shared
from missedparts.sums import Sum

MOST_IN_CLAIM = 4
MOST_LEVELS = 24
# The greatest number of letters in a claim about machines of one, two and three letters.
MOST_BY_LETTERS = (4, 4, 2)


def is_claim(value):
    """Whether any value is a claim."""
    if not isinstance(value, tuple) or len(value) == 0 or not isinstance(value[0], str):
        return False
    word, about = value[0], value[1:]
    if word in ("by parts", "spoiled"):
        return len(about) == 1 and _is_small(about[0])
    if word == "shared":
        return len(about) == 2 and _are_two(about)
    if len(about) != 3 or not _are_two(about[:2]):
        return False
    letters, last = about[0].letters, about[2]
    if word in ("parted", "high"):
        return is_count(last) and last <= MOST_LEVELS
    if word in ("by letters", "alike"):
        return is_count(last) and last <= MOST_BY_LETTERS[len(letters) - 1]
    if word in ("sure", "unsure"):
        return is_over(last, letters)
    return word in ("clear", "muddled") and is_line_over(letters, last)


def is_true(claim):
    """Whether what the claim tells is so."""
    _need_claim(claim)
    action = TRUTHS[claim[0]]
    about = claim[1:]
    return action(*about)


def paper_of(claim):
    """A paper that shows the claim; None if it is not true."""
    if not is_true(claim):
        return None
    action = MAKERS[claim[0]]
    about = claim[1:]
    return action(*about)


def is_paper(claim, value):
    """Whether any value is a paper of the claim."""
    _need_claim(claim)
    action = JUDGES[claim[0]]
    about = claim[1:]
    return action(*about, value)


def _is_small(value):
    """Whether any value is a machine about which claims are made."""
    return isinstance(value, Machine) and len(value) <= MOST_IN_CLAIM


def _are_two(values):
    """Whether two values are such machines, with the same letters."""
    return all([_is_small(value) for value in values]) and values[0].letters == values[1].letters


def _need_claim(value):
    """Raise InvalidClaim unless the value is a claim."""
    if not is_claim(value):
        raise InvalidClaim(value)


def _share(one, other):
    return do_share(one, other)


def _are_parted(one, other, number):
    many = depth(one, other)
    return many is not None and many <= number


def _is_high(one, other, number):
    # Towers of two machines that share a product have no end.
    many = depth(one, other)
    return many is None or many >= number


def _are_by_letters(one, other, number):
    return alike_pair(one, other, number) is None


def _are_alike(one, other, number):
    return alike_pair(one, other, number) is not None


def _is_by_parts(machine):
    return is_by_parts(machine)


def _is_spoiled(machine):
    return not is_by_parts(machine)


def _is_sure(told, wish, text):
    return is_heard(told, text) and not is_heard(told - wish, text)


def _is_unsure(told, wish, text):
    return is_heard(told - wish, text)


def _is_clear(one, other, line):
    return is_clear_line(one, other, line)


def _is_muddled(one, other, line):
    return not is_clear_line(one, other, line)


TRUTHS = {
    "shared": _share, "parted": _are_parted, "high": _is_high, "by letters": _are_by_letters, "alike": _are_alike,
    "by parts": _is_by_parts, "spoiled": _is_spoiled, "sure": _is_sure, "unsure": _is_unsure, "clear": _is_clear,
    "muddled": _is_muddled,
}


def _shared_paper(one, other):
    return some_shared(one, other)


def _levels_paper(one, other, number):
    """Levels of which there are few enough, as the claim is true."""
    return levels(one, other)


def _ladder_paper(one, other, number):
    """A ladder; a shared product may stand in it as often as one likes."""
    found = ladder(one, other)
    return [some_shared(one, other)] * number if found is None else found


def _letters_paper(one, other, number):
    return test_by_letters(one, other, number)


def _alike_paper(one, other, number):
    return alike_pair(one, other, number)


def _by_parts_paper(machine):
    return levels(machine, ~machine)


def _spoiled_paper(machine):
    return spoiler(machine)


def _sure_paper(told, wish, text):
    """A text that told takes and that has the text as a part, and all texts of which few of its letters are no part."""
    letters = told.letters
    pieces = []
    for letter in _letters_that_tell(told - wish, text):
        others = letters.replace(letter, "")
        pieces.extend([others + "*", letter] if others else [letter])
    # If nothing is unsure, no letter is needed to tell so, and no text is left out of the empty sum.
    return told_whole(told, text), Sum(letters, [tuple(pieces[:-1])] if pieces else [])


def _letters_that_tell(machine, text):
    """A part of a text that is no part of a text that the machine takes, as the text is not; it has few letters."""
    web = down_web(machine)
    nodes = web.start()
    found = []
    for letter, code in zip(text, letter_codes(text)):
        behind = web.led(nodes, code)
        # Without a letter that changes nothing one stands where one stood with it.
        if behind != nodes:
            found.append(letter)
        nodes = behind
    return found


def _unsure_paper(told, wish, text):
    return told_whole(told - wish, text)


def _clear_paper(one, other, line):
    return heard_machine(one, line)


def _muddled_paper(one, other, line):
    text = least_of_both(heard_machine(one, line), heard_machine(other, line))
    return text, told_text(one, line, text), told_text(other, line, text)


MAKERS = {
    "shared": _shared_paper, "parted": _levels_paper, "high": _ladder_paper, "by letters": _letters_paper,
    "alike": _alike_paper, "by parts": _by_parts_paper, "spoiled": _spoiled_paper, "sure": _sure_paper,
    "unsure": _unsure_paper, "clear": _clear_paper, "muddled": _muddled_paper,
}


def _shows_shared(one, other, value):
    return is_shared(one, other, value)


def _shows_parted(one, other, number, value):
    return are_levels(one, other, value) and len(value) <= number


def _shows_high(one, other, number, value):
    return is_ladder(one, other, value) and len(value) >= number


def _shows_by_letters(one, other, number, value):
    return is_test(value) and letters_of(value) <= number and is_parted_by(one, other, value)


def _shows_alike(one, other, number, value):
    return is_alike_pair(one, other, number, value)


def _shows_by_parts(machine, value):
    return are_levels(machine, ~machine, value)


def _shows_spoiled(machine, value):
    return is_spoiler(machine, value)


def _shows_sure(told, wish, text, value):
    if not isinstance(value, tuple) or len(value) != 2:
        return False
    whole, some = value
    if whole not in told or not is_part(text, whole):
        return False
    if not isinstance(some, Sum) or text in some:
        return False
    return is_taken_within(told - wish, Sum.whole(told.letters).codes(), some.codes())


def _shows_unsure(told, wish, text, value):
    return value in told and value not in wish and is_part(text, value)


def _shows_clear(one, other, line, value):
    if not isinstance(value, Machine) or value.letters != one.letters:
        return False
    if least_of_both(heard_machine(one, line), ~value) is not None:
        return False
    return least_of_both(heard_machine(other, line), value) is None


def _shows_muddled(one, other, line, value):
    if not isinstance(value, tuple) or len(value) != 3:
        return False
    text, mine, theirs = value
    if not is_over(text, one.letters) or mine not in one or theirs not in other:
        return False
    return is_told_as(line, mine, text) and is_told_as(line, theirs, text)


JUDGES = {
    "shared": _shows_shared, "parted": _shows_parted, "high": _shows_high, "by letters": _shows_by_letters,
    "alike": _shows_alike, "by parts": _shows_by_parts, "spoiled": _shows_spoiled, "sure": _shows_sure,
    "unsure": _shows_unsure, "clear": _shows_clear, "muddled": _shows_muddled,
}
