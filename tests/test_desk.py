"""A desk and trials of it: examples, edges, plain readings, wrong inputs."""

import random
from unittest import mock

from missedparts import levels as levels_module
from missedparts.desk import Desk, Trial, tried
from missedparts.edits import redirected, turned
from missedparts.errors import (
    CommandFailed, InvalidCommand, InvalidLetter, InvalidMachine, InvalidPlace, InvalidText, NotComeTo, NothingToUndo, OtherLetters,
    PartsError, StateError, TooMany,
)
from missedparts.levels import depth, levels
from missedparts.machines import Machine
from tests.plain import (
    ALL, EMPTY_TEXT, FEW, LAST, NOTHING, OTHERS, PAIRS, SINGLE, Case, chain, counter, some_machine, texts_over,
)
from tests.test_levels import HIGH

EXAMPLES = """
>>> from missedparts.machines import Machine
>>> single = Machine("ab", [[1, 0], [2, 1], [2, 2]], [False, True, False])
>>> pairs = Machine("ab", [[1, 0], [2, 1], [3, 2], [3, 3]], [True, False, True, False])
>>> from missedparts.desk import Desk, Trial
>>> desk = Desk(single, pairs)
>>> [desk.do("depth"), desk["aa"], desk.do("level 2 bb"), desk.do_all("turn other 3", "depth"), len(desk)]
['2', 'other', 'yes', ['done', '2'], 1]
"""
NO_COMMANDS = OTHERS + [
    0, "", " ", "Depth", "depth ", " depth", "depth 1", "depths", "depth\n", "dept", "takes", "takes ", "takes  a", "takes a b", "takes c", "takes A",
    "takes -a", "takes --", "takes a ", "takes 0", " takes a", "level", "level 1", "level a", "level 1 ", "level 1 c", "level 1  a", "level 0 a",
    "level 25 a", "level 01 a", "level -1 a", "level +1 a", "level 1.0 a", "level one a", "level 1 a b", "level a 1", "level 100 -", "level 1 --",
    "level " + "9" * 5000 + " a", "turn", "turn one", "turn 0", "turn one 0 0", "turn one  0", "turn one 00", "turn one 01", "turn one -1", "turn one +1",
    "turn one a", "turn One 0", "turn both 0", "turn 0 one", "turn one 0 ", "turn - 0", "turn one -", "turn one 1_0", "lead", "lead one 0 a",
    "lead one 0 a 0 0", "lead one 0 c 0", "lead one 0 ab 0", "lead one 0 - 0", "lead one 0  0", "lead one a 0 0", "lead none 0 a 0", "lead one 00 a 0",
    "lead one 0 a 00", "lead one 0 A 0", "lead one x a 0", "lead one 0 a x", "lead 0 a 0", "lead one 0 a -1", "swap ", "swap one", "swap other one", "Swap",
    "undo 1", "undo ", " undo", "done", "swap\nswap", "do depth", "one", "other", b"depth", ["depth"], ("depth",), [], (), {"depth": 1},
]


class Model:
    """What a desk should be, with all that was ahead of each change copied."""

    def __init__(self, one, other):
        self.state, self.past = (one, other), []

    def change(self, one, other):
        self.past.append(self.state)
        self.state = (one, other)

    def change_which(self, which, machine):
        self.change(*((machine, self.state[1]) if which == "one" else (self.state[0], machine)))


class Examples(Case):
    def test_as_they_stand_in_the_document(self):
        self.assert_examples(EXAMPLES, 6)


class Stands(Case):
    def assert_stands(self, desk, one, other, many):
        self.assertEqual((desk.one, desk.other, len(desk)), (one, other, many))

    def test_a_desk_without_changes(self):
        desk = Desk(SINGLE, PAIRS)
        self.assert_stands(desk, SINGLE, PAIRS, 0)
        self.assert_stands(Desk(other=PAIRS, one=SINGLE), SINGLE, PAIRS, 0)
        for text in texts_over("ab", 4):
            expected = {(True, True): "both", (True, False): "one", (False, True): "other", (False, False): "none"}
            self.assertEqual(desk[text], expected[SINGLE.takes(text), PAIRS.takes(text)])
            self.assertIs(text in desk, SINGLE.takes(text) or PAIRS.takes(text))
        self.assertEqual([Desk(ALL, ALL)[""], Desk(NOTHING, NOTHING)["a"], Desk(EMPTY_TEXT, NOTHING)[""], Desk(NOTHING, ALL)["ab"]],
                         ["both", "none", "one", "other"])

    def test_wrong_machines(self):
        for value in OTHERS + [0, "ab", (), [SINGLE], FEW, Desk(SINGLE, PAIRS)]:
            if not isinstance(value, Machine):
                self.assert_raised(InvalidMachine, {"value": value}, Desk, value, PAIRS)
                self.assert_raised(InvalidMachine, {"value": value}, Desk, SINGLE, value)
                self.assert_raised(InvalidMachine, {"value": value}, Desk, value, None)
        for other in [counter("abc", 2, []), chain("a", 3), counter("xy", 40, [])]:
            self.assert_raised(OtherLetters, {"one": "ab", "other": other.letters}, Desk, SINGLE, other)

    def test_one_and_other_are_told_as_they_stand_whenever_they_are_read(self):
        desk = Desk(SINGLE, PAIRS)
        first = (desk.one, desk.other)
        with_last = SINGLE | LAST
        for change, one, other in [
                (lambda: desk.turn("one", 2), turned(SINGLE, [2]), PAIRS), (lambda: desk.swap(), PAIRS, turned(SINGLE, [2])),
                (lambda: desk.lead("other", 2, "b", 0), PAIRS, redirected(turned(SINGLE, [2]), 2, "b", 0)),
                (lambda: desk.do("undo"), PAIRS, turned(SINGLE, [2])), (lambda: desk.do_all("undo", "undo"), SINGLE, PAIRS),
                (lambda: desk.__iadd__(LAST), with_last, PAIRS), (lambda: desk.__isub__(PAIRS), with_last - PAIRS, PAIRS),
                (lambda: tried(desk, lambda held: held.swap()), with_last - PAIRS, PAIRS), (lambda: desk.undo(), with_last, PAIRS)]:
            change()
            for _ in range(2):
                self.assertEqual((desk.one, desk.other), (one, other))
        # What was told ahead of the changes is as it was.
        self.assertEqual(first, (SINGLE, PAIRS))

    def test_one_and_other_of_an_error_beside_those_of_a_desk(self):
        desk = Desk(SINGLE, PAIRS)
        for more in [chain("a", 3), counter("abc", 2, [])]:
            for asked in [desk.__iadd__, desk.__isub__]:
                with self.assertRaises(OtherLetters) as held:
                    asked(more)
                self.assertEqual(vars(held.exception), {"one": "ab", "other": more.letters})
                held.exception.one, held.exception.other = "x", "y"
                self.assertEqual(vars(held.exception), {"one": "x", "other": "y"})
                self.assert_stands(desk, SINGLE, PAIRS, 0)

    def test_texts(self):
        desk = Desk(ALL, NOTHING)
        for value in OTHERS + [0, "c", "abc", "A", "-", ("a",), ["a"], (), slice(0, 1)]:
            self.assertIs(value in desk, False)
            self.assert_raised(InvalidText, {"value": value}, lambda text: desk[text], value)
        self.assertIs("" in desk, True)
        self.assertEqual(desk["ab" * 4500], "one")
        self.assertIs("ab" * 4500 in desk, True)

    def test_turn(self):
        desk = Desk(SINGLE, PAIRS)
        self.assertIsNone(desk.turn("one", 2))
        self.assert_stands(desk, turned(SINGLE, [2]), PAIRS, 1)
        self.assertIsNone(desk.turn(place=0, which="other"))
        self.assert_stands(desk, turned(SINGLE, [2]), turned(PAIRS, [0]), 2)
        desk.turn("one", 2)
        self.assert_stands(desk, SINGLE, turned(PAIRS, [0]), 3)
        for value in OTHERS + [0, 1, "", "One", "both", "self", ["one"], ("one",), SINGLE]:
            for place in [0, None, 9]:
                self.assert_raised(InvalidCommand, {"value": value}, desk.turn, value, place)
                self.assert_raised(InvalidCommand, {"value": value}, desk.lead, value, place, None, None)
        for value in OTHERS + [3, 4, 10 ** 29, "0", "", (0,), [0]]:
            self.assert_raised(InvalidPlace, {"value": value}, desk.turn, "one", value)
        self.assert_raised(InvalidPlace, {"value": 4}, desk.turn, "other", 4)
        self.assert_stands(desk, SINGLE, turned(PAIRS, [0]), 3)

    def test_lead(self):
        desk = Desk(SINGLE, PAIRS)
        self.assertIsNone(desk.lead("one", 2, "b", 0))
        self.assert_stands(desk, redirected(SINGLE, 2, "b", 0), PAIRS, 1)
        self.assertIsNone(desk.lead(goal=3, letter="a", place=3, which="other"))
        self.assert_stands(desk, redirected(SINGLE, 2, "b", 0), PAIRS, 2)
        for value in OTHERS + [3, "0", (), [0]]:
            self.assert_raised(InvalidPlace, {"value": value}, desk.lead, "one", value, None, None)
            self.assert_raised(InvalidPlace, {"value": value}, desk.lead, "one", 0, "a", value)
        for value in OTHERS + [0, "", "c", "ab", ["a"]]:
            self.assert_raised(InvalidLetter, {"value": value}, desk.lead, "one", 0, value, None)
        self.assert_raised(NotComeTo, {"place": 1}, desk.lead, "one", 0, "a", 0)
        self.assert_raised(NotComeTo, {"place": 3}, desk.lead, "other", 2, "a", 2)
        self.assert_stands(desk, redirected(SINGLE, 2, "b", 0), PAIRS, 2)

    def test_with_another_machine(self):
        desk = held = Desk(SINGLE, PAIRS)
        desk += LAST
        self.assertIs(desk, held)
        self.assert_stands(desk, SINGLE | LAST, PAIRS, 1)
        desk -= PAIRS
        self.assertIs(desk, held)
        self.assert_stands(desk, (SINGLE | LAST) - PAIRS, PAIRS, 2)
        desk += NOTHING
        self.assertEqual(len(desk), 3)
        for value in OTHERS + [0, "ab", [SINGLE], FEW, Desk(SINGLE, PAIRS)]:
            if not isinstance(value, Machine):
                self.assert_raised(InvalidMachine, {"value": value}, desk.__iadd__, value)
                self.assert_raised(InvalidMachine, {"value": value}, desk.__isub__, value)
        for asked in [desk.__iadd__, desk.__isub__]:
            self.assert_raised(OtherLetters, {"one": "ab", "other": "abc"}, asked, counter("abc", 2, []))
            self.assert_too_many("places", 40, asked, counter("ab", 40, [0]))
        self.assertEqual(len(desk), 3)
        desk.undo()
        desk.undo()
        self.assert_stands(desk, SINGLE | LAST, PAIRS, 1)

    def test_swap_and_undo(self):
        desk = Desk(SINGLE, PAIRS)
        self.assert_raised(NothingToUndo, {}, desk.undo)
        self.assertIsNone(desk.swap())
        self.assert_stands(desk, PAIRS, SINGLE, 1)
        desk.turn("one", 3)
        self.assertIsNone(desk.undo())
        self.assertIsNone(desk.undo())
        self.assert_stands(desk, SINGLE, PAIRS, 0)
        self.assert_raised(NothingToUndo, {}, desk.undo)
        # Changes that leave both as they are count as well.
        same = Desk(LAST, LAST)
        same.swap()
        same.lead("one", 0, "a", 0)
        same += LAST
        same -= Machine("ab", [[0, 0]], [False])
        self.assert_stands(same, LAST, LAST, 4)
        for many in [3, 2, 1, 0]:
            same.undo()
            self.assertEqual(len(same), many)

    def test_many_changes(self):
        source = random.Random(1)
        for _ in range(40):
            letters = source.choice(["a", "ab", "abc"])
            one, other = some_machine(source, letters, 4), some_machine(source, letters, 4)
            desk, model = Desk(one, other), Model(one, other)
            for _ in range(60):
                self.some_change(source, desk, model)
                self.assert_stands(desk, *model.state, len(model.past))
            while model.past:
                model.state = model.past.pop()
                desk.undo()
                self.assert_stands(desk, *model.state, len(model.past))
            self.assert_stands(desk, one, other, 0)

    def some_change(self, source, desk, model):
        which = source.choice(["one", "other"])
        machine = model.state[which == "other"]
        place, goal = source.randrange(len(machine)), source.randrange(len(machine))
        letter = source.choice(machine.letters)
        kind = source.choice(["turn", "lead", "add", "take", "swap", "undo"])
        try:
            if kind == "turn":
                desk.turn(which, place)
                model.change_which(which, turned(machine, [place]))
            elif kind == "lead":
                desk.lead(which, place, letter, goal)
                model.change_which(which, redirected(machine, place, letter, goal))
            elif kind in ("add", "take"):
                more = some_machine(source, machine.letters, 2)
                if kind == "add":
                    desk += more
                else:
                    desk -= more
                model.change(model.state[0] | more if kind == "add" else model.state[0] - more, model.state[1])
            elif kind == "swap":
                desk.swap()
                model.change(*model.state[::-1])
            else:
                desk.undo()
                model.state = model.past.pop()
        except (NotComeTo, NothingToUndo, TooMany):
            pass

    def test_300_changes(self):
        desk = Desk(counter("abc", 40, [0]), counter("abc", 40, [1]))
        for at in range(300):
            desk.turn("one" if at % 2 else "other", at % 40)
        self.assertEqual(len(desk), 300)
        for _ in range(300):
            desk.undo()
        self.assert_stands(desk, counter("abc", 40, [0]), counter("abc", 40, [1]), 0)


class Commands(Case):
    def test_depth(self):
        for one, other, expected in [
                (SINGLE, PAIRS, "2"), (PAIRS, SINGLE, "3"), (NOTHING, ALL, "0"), (LAST, ~LAST, "endless"), (*HIGH[0][:2], "11")]:
            desk = Desk(one, other)
            self.assertEqual(desk.do("depth"), expected)
            self.assertEqual(desk.do(command="depth"), expected)
            self.assertEqual(expected, str(depth(one, other)) if expected != "endless" else "endless")
            self.assertEqual(len(desk), 0)

    def test_takes(self):
        desk = Desk(SINGLE, PAIRS)
        for text in texts_over("ab", 4):
            self.assertEqual(desk.do(f"takes {text or '-'}"), desk[text])
        self.assertEqual(desk.do("takes " + "b" * 8000), "other")

    def test_level(self):
        for one, other, many in [(SINGLE, PAIRS, 2), (PAIRS, SINGLE, 3), (NOTHING, ALL, 0), HIGH[2]]:
            desk, found = Desk(one, other), levels(one, other)
            for number in range(1, 25):
                for text in texts_over("ab", 3):
                    expected = "yes" if number <= many and text in found[number - 1] else "no"
                    self.assertEqual(desk.do(f"level {number} {text or '-'}"), expected)
        for number in [1, 24]:
            self.assertEqual(Desk(LAST, ~LAST).do(f"level {number} a"), "no")

    def test_changes(self):
        desk = Desk(SINGLE, PAIRS)
        for many, (command, one, other) in enumerate([
                ("turn one 2", turned(SINGLE, [2]), PAIRS), ("turn other 0", turned(SINGLE, [2]), turned(PAIRS, [0])),
                ("swap", turned(PAIRS, [0]), turned(SINGLE, [2])),
                ("lead other 2 b 0", turned(PAIRS, [0]), redirected(turned(SINGLE, [2]), 2, "b", 0))], 1):
            self.assertEqual(desk.do(command), "done")
            self.assertEqual((desk.one, desk.other, len(desk)), (one, other, many))
        for many in [3, 2, 1, 0]:
            self.assertEqual(desk.do("undo"), "done")
            self.assertEqual(len(desk), many)
        self.assertEqual((desk.one, desk.other), (SINGLE, PAIRS))
        self.assert_raised(NothingToUndo, {}, desk.do, "undo")
        long = Desk(counter("ab", 40, [0]), counter("ab", 40, [0]))
        self.assertEqual(long.do("turn other 39"), "done")
        self.assertEqual(long.other, counter("ab", 40, [0, 39]))
        self.assertEqual(long.do("lead other 39 a 10"), "done")

    def test_no_commands(self):
        for machine in [SINGLE, counter("ab", 5, [0])]:
            desk = Desk(machine, machine)
            desk.swap()
            for value in NO_COMMANDS:
                self.assert_raised(InvalidCommand, {"value": value}, desk.do, value)
            self.assertEqual((desk.one, desk.other, len(desk)), (machine, machine, 1))

    def test_places(self):
        desk = Desk(SINGLE, PAIRS)
        for command, value in [
                ("turn one 3", 3), ("turn other 4", 4), ("turn one 40", 40), ("turn one 100000000000000000000000000000", 10 ** 29),
                ("lead one 3 a 9", 3), ("lead one 0 a 9", 9), ("lead one 2 b 3", 3), ("lead other 0 b 4", 4), ("lead other 4 b 0", 4)]:
            self.assert_raised(InvalidPlace, {"value": value}, desk.do, command)
        self.assert_raised(NotComeTo, {"place": 1}, desk.do, "lead one 0 a 0")
        # What is no command at all is told ahead of places.
        for command in ["lead one 3 c 9", "lead one 9 a x", "turn two 9", "turn one 9 9"]:
            self.assert_raised(InvalidCommand, {"value": command}, desk.do, command)
        self.assertEqual((desk.one, desk.other, len(desk)), (SINGLE, PAIRS, 0))

    def test_too_many(self):
        desk = Desk(counter("ab", 5, [0]), SINGLE)
        for command in ["depth", "level 1 a", "level 24 -"]:
            self.assert_too_many("places", 4, desk.do, command)
        self.assertEqual(desk.do("takes -"), "one")
        high = Desk(*HIGH[0][:2])
        with mock.patch.object(levels_module, "MOST_LEVELS", 10):
            for command in ["depth", "level 1 a", "level 24 -"]:
                self.assert_too_many("levels", 10, high.do, command)

    def test_do_all(self):
        desk = Desk(SINGLE, PAIRS)
        self.assertEqual(desk.do_all(), [])
        self.assertEqual(desk.do_all("depth"), ["2"])
        self.assertEqual(desk.do_all("swap", "depth", "takes a", "turn one 0", "undo", "level 1 -"), ["done", "3", "other", "done", "done", "yes"])
        self.assertEqual((desk.one, desk.other, len(desk)), (PAIRS, SINGLE, 1))
        self.assertEqual(desk.do_all("undo"), ["done"])
        self.assertEqual((desk.one, desk.other, len(desk)), (SINGLE, PAIRS, 0))

    def test_do_all_that_fails(self):
        desk = Desk(SINGLE, PAIRS)
        desk.turn("one", 0)
        one = desk.one
        for commands, position, cause in [
                (["nothing"], 0, InvalidCommand), ([None], 0, InvalidCommand), (["swap", "turn one 9"], 1, InvalidPlace),
                (["undo", "undo"], 1, NothingToUndo), (["undo", "swap", "turn one 3", "lead one 0 a 0"], 3, NotComeTo),
                (["turn one 0", "turn other 0", ["depth"], None], 2, InvalidCommand), (["undo", "swap", "depth", "depth 1"], 3, InvalidCommand)]:
            with self.assertRaises(CommandFailed) as held:
                desk.do_all(*commands)
            self.assertEqual(vars(held.exception), {"position": position})
            self.assertIs(type(held.exception.__cause__), cause)
            self.assertEqual((desk.one, desk.other, len(desk)), (one, PAIRS, 1))
        with self.assertRaises(CommandFailed) as held:
            desk.do_all("swap", "turn one 77")
        self.assertEqual(held.exception.__cause__.value, 77)
        five = Desk(counter("ab", 5, [0]), SINGLE)
        with self.assertRaises(CommandFailed) as held:
            five.do_all("swap", "takes -", "depth")
        self.assertEqual((held.exception.position, held.exception.__cause__.what), (2, "places"))
        self.assertEqual((five.one, len(five)), (counter("ab", 5, [0]), 0))
        desk.undo()
        self.assertEqual((desk.one, desk.other, len(desk)), (SINGLE, PAIRS, 0))


class Trials(Case):
    def test_a_trial(self):
        desk = Desk(SINGLE, PAIRS)
        desk.swap()
        with Trial(desk) as held:
            self.assertIs(held, desk)
            held.turn("one", 0)
            held += LAST
            self.assertEqual((held.one, len(held)), (turned(PAIRS, [0]) | LAST, 3))
        self.assertEqual((desk.one, desk.other, len(desk)), (PAIRS, SINGLE, 1))
        with Trial(desk=desk) as held:
            held.undo()
            held.turn("other", 1)
            held.do_all("swap", "swap")
        self.assertEqual((desk.one, desk.other, len(desk)), (PAIRS, SINGLE, 1))
        desk.undo()
        self.assertEqual((desk.one, desk.other, len(desk)), (SINGLE, PAIRS, 0))
        self.assert_raised(NothingToUndo, {}, desk.undo)

    def test_left_by_an_error(self):
        desk = Desk(SINGLE, PAIRS)
        desk.turn("one", 0)
        for kind, asked in [(InvalidPlace, lambda: desk.turn("one", 9)), (KeyError, lambda: {}["a"]), (CommandFailed, lambda: desk.do_all("swap", "x"))]:
            with self.assertRaises(kind):
                with Trial(desk) as held:
                    held.undo()
                    held.swap()
                    held.swap()
                    asked()
            self.assertEqual((desk.one, desk.other, len(desk)), (turned(SINGLE, [0]), PAIRS, 1))

    def test_trials_within_trials(self):
        desk = Desk(SINGLE, PAIRS)
        with Trial(desk) as first:
            first.swap()
            with Trial(desk) as second:
                second.turn("one", 1)
                with self.assertRaises(PartsError), Trial(second) as third:
                    third.undo()
                    third.undo()
                    third.turn("one", 1)
                    third.turn("nobody", 1)
                self.assertEqual((second.one, len(second)), (turned(PAIRS, [1]), 2))
            self.assertEqual((first.one, first.other, len(first)), (PAIRS, SINGLE, 1))
            first.undo()
        self.assertEqual((desk.one, desk.other, len(desk)), (SINGLE, PAIRS, 0))

    def test_a_trial_again(self):
        desk = Desk(SINGLE, PAIRS)
        trial = Trial(desk)
        with trial as held:
            held.swap()
        desk.turn("one", 0)
        # It is told as it is where the block begins, not where the trial was made.
        with trial as held:
            held.undo()
            held.swap()
        self.assertEqual((desk.one, desk.other, len(desk)), (turned(SINGLE, [0]), PAIRS, 1))

    def test_tried(self):
        desk = Desk(SINGLE, PAIRS)
        desk.swap()
        self.assertEqual(tried(desk, lambda held: held.do_all("undo", "turn one 0", "takes -")), ["done", "done", "both"])
        self.assertEqual((desk.one, desk.other, len(desk)), (PAIRS, SINGLE, 1))
        self.assertIs(tried(action=lambda held: held, desk=desk), desk)
        self.assertIsNone(tried(desk, lambda held: held.undo()))
        self.assertEqual(tried(desk, lambda held: tried(held, lambda inner: inner.do_all("swap", "swap")) + [len(held)]), ["done", "done", 1])
        for kind, action in [(StateError, lambda held: [held.undo(), held.undo()]), (ZeroDivisionError, lambda held: [held.swap(), 1 // 0])]:
            self.assertRaises(kind, tried, desk, action)
            self.assertEqual((desk.one, desk.other, len(desk)), (PAIRS, SINGLE, 1))
