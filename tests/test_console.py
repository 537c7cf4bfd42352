"""keptlikes.console: points 2 to 5, 8 and 9, and the section of the interface."""

import inspect
import random
import unittest

from keptlikes.console import Console
from keptlikes.errors import InvalidLine
from keptlikes.heaps import Heap
from keptlikes.live import LiveHeap
from tests.helpers import ErrorCase, deep, strange_values
from tests.oracle import WAYS, all_outcomes, by_the_document

LARGE = "9" * 20
NINE = (
    (3, ()), (1, (0,)), (4, (1,)), (1, (1,)), (5, (0, 3)), (9, (2, 4)), (2, ()), (6, (5, 6)), (5, (0, 7)),
)


def listed(things):
    return ",".join(map(str, things))


def line_of(worth, near):
    if not near:
        return f"add {worth}"
    return f"add {worth} {listed(near)}"


def worths_and_pairs(things):
    pairs = sorted((other, thing) for thing, (_, near) in enumerate(things) for other in near)
    return tuple(worth for worth, _ in things), tuple(pairs)


def kept_text(way, things):
    """What the console has to answer after these things have arrived."""
    if not things:
        return "-"
    order = tuple(range(len(things)))
    return listed(by_the_document.__wrapped__(*worths_and_pairs(things), way, order))


def free_text(way, things):
    if not things or len(all_outcomes(*worths_and_pairs(things), way)) == 1:
        return "yes"
    return "no"


def filled(way, things):
    console = Console(way)
    for worth, near in things:
        console.say(line_of(worth, near))
    return console


class ConsoleCase(ErrorCase):
    def assert_has(self, console, way, things):
        """The console has just these things; it has none of them afterwards."""
        for count in range(len(things), 0, -1):
            self.assertEqual(console.say("kept"), kept_text(way, things[:count]))
            self.assertEqual(console.say("undo"), kept_text(way, things[:count - 1]))
        self.assertEqual([console.say(line) for line in ("kept", "undo", "free")], ["-", "refused", "yes"])


class Example(unittest.TestCase):
    def test_the_example(self):
        console = Console("better")
        found = [
            console.say("add 1"), console.say("add 2 0"), console.say("add 3 1"), console.say("free"),
            console.say("undo"), console.say("add 5 7"), console.say("kept"),
        ]
        self.assertEqual(found, ["0", "1", "2", "no", "1", "refused", "1"])


class Lines(ConsoleCase):
    def test_without_things(self):
        for way in WAYS:
            console = Console(way)
            lines = ("kept", "free", "undo", "kept", "add 1 0", "kept", "free")
            self.assertEqual([console.say(line) for line in lines], ["-", "yes", "refused", "-", "refused", "-", "yes"])

    def test_nine_things_step_by_step(self):
        for way in WAYS:
            console = Console(way)
            for count, (worth, near) in enumerate(NINE):
                found = console.say(line_of(worth, near))
                self.assertIs(type(found), str)
                self.assertEqual(found, kept_text(way, NINE[:count + 1]))
                self.assertEqual(console.say("kept"), found)
                if count < 6:
                    self.assertEqual(console.say("free"), free_text(way, NINE[:count + 1]))
            self.assert_has(console, way, NINE)

    def test_free_with_nine_things(self):
        for way in WAYS:
            alone = filled(way, [(1, ())] * 9)
            together = filled(way, [(count, tuple(range(count))) for count in range(9)])
            alike = filled(way, [(5, tuple(range(count))) for count in range(9)])
            expected = "yes" if way in ("better", "best", "lots") else "no"
            found = [console.say("free") for console in (alone, together, alike)]
            self.assertEqual(found, ["yes", expected, "no"])

    def test_free_is_about_all_orders(self):
        for way in WAYS:
            things = [(1, ()), (2, (0,)), (3, (1,))]
            self.assertEqual(filled(way, things).say("free"), "yes" if way in ("best", "lots") else "no")
            self.assertEqual(filled(way, things[:1]).say("free"), "yes")

    def test_undo_takes_back_one_thing(self):
        console = filled("first", NINE)
        self.assertEqual(console.say("undo"), kept_text("first", NINE[:8]))
        self.assertEqual(console.say("add 0 7"), kept_text("first", (*NINE[:8], (0, (7,)))))
        self.assert_has(console, "first", (*NINE[:8], (0, (7,))))

    def test_each_console_is_for_itself(self):
        one, other = Console("first"), Console("first")
        one.say("add 1")
        self.assertEqual([one.say("kept"), other.say("kept")], ["0", "-"])

    def test_worths_of_20_digits_and_below_0(self):
        for way in WAYS:
            things = [(int(LARGE), ()), (-int(LARGE), (0,)), (0, (1,)), (-1, (0, 2)), (10, (3,))]
            console = filled(way, things)
            self.assertEqual(console.say("kept"), kept_text(way, things))
            self.assert_has(console, way, things)


class Refused(ConsoleCase):
    def test_arrivals_that_the_live_heap_refuses(self):
        for way in WAYS:
            for before in (0, 1, 3):
                console = filled(way, NINE[:before])
                for near in (
                    str(before), "9", LARGE, f"0,{before}", "1,0", "0,0", "2,1", "0,2,1", "0,1,1", "2,2",
                    LARGE + "," + LARGE,
                ):
                    self.assertEqual(console.say(f"add 1 {near}"), "refused")
                    self.assertEqual(console.say("kept"), kept_text(way, NINE[:before]))
                self.assert_has(console, way, NINE[:before])

    def test_a_tenth_thing(self):
        for way in WAYS:
            console = filled(way, NINE)
            for line in ("add 1", "add 1 0", "add -7 0,1,2,3,4,5,6,7,8", "add 1 9"):
                self.assertEqual(console.say(line), "refused")
            self.assert_has(console, way, NINE)

    def test_nothing_to_undo(self):
        console = Console("lots")
        self.assertEqual(console.say("undo"), "refused")
        found = [console.say(line) for line in ("add 4", "undo", "undo", "kept")]
        self.assertEqual(found, ["0", "-", "refused", "-"])


class LinesThatAreNone(ConsoleCase):
    def assert_invalid(self, line):
        """The line is told, and a console that is given it is as it was."""
        for things in ((), NINE[:2]):
            console = filled("best", things)
            self.assert_value(InvalidLine, line, console.say, line)
            self.assert_value(InvalidLine, line, console.say, line=line)
            self.assert_has(console, "best", things)

    def test_no_strings(self):
        for line in (*strange_values(), 3, (), ("kept",), ["kept"], b"kept", ("add", "1"), deep(15), LiveHeap("first")):
            self.assert_invalid(line)

    def test_other_words(self):
        for line in (
            "", " ", "a", "ad", "add", "Add 1", "ADD 1", "adds 1", "add1", "undo 1", "undo 0", "undoes", "Undo",
            "kep", "Kept", "KEPT", "kept 0", "free 1", "Free", "none", "-", "refused", "yes", "1", "0 1",
            "add add", "kept kept", "undo undo", "x" * 500, "add " + "x" * 496, "first",
        ):
            self.assert_invalid(line)

    def test_a_character_more_at_each_place(self):
        lines = ("kept", "undo", "free", "add 1", "add 12 0,1", "add -3 1")
        for line in lines:
            for at in range(len(line) + 1):
                for extra in (" ", "\n", "\t", "\r", "\x00", "\u00a0", "x", "+", "_", ".", ";", "\u0663", "\u00b2"):
                    self.assert_invalid(line[:at] + extra + line[at:])

    def test_a_character_less_or_another_one_at_each_place(self):
        for line in ("kept", "undo", "free", "add 1", "add 1 0,1"):
            for at in range(len(line)):
                for other in ("", " ", "\n", "X", "+", "\u0661"):
                    changed = line[:at] + other + line[at + 1:]
                    if changed != line:
                        self.assert_invalid(changed)

    def test_spaces(self):
        for line in (
            " kept", "kept ", " undo", "undo ", " free", "free ", " add 1", "add  1", "add 1 ", "add ", "add  ",
            "add 1  0", "add 1 0 ", "add 1 0, 1", "add 1 0 ,1", "add 1 0 1", "add 1 0,1 2", "add\t1", "add\n1",
            "add 1\t0", "add 1\n", "kept\n", "\nkept", "add 1 0\n", "add 1 0,1\n", "add - 1",
        ):
            self.assert_invalid(line)

    def test_worths_that_str_does_not_write(self):
        for worth in (
            "+1", "01", "00", "-0", "-01", "-00", "--1", "-", "+", "1-", "- 1", "1_0", "1.0", "1e3", "0x1", "0b1",
            "1,0", "1,", ",1", "x", "True", "None", "\u0661", "\u00b2", "\uff11", "1\u0661", "\u22121", "(1)",
            "'1'", "-+1",
        ):
            self.assert_invalid(f"add {worth}")
            self.assert_invalid(f"add {worth} 0")

    def test_near_numbers_that_are_none(self):
        for near in (
            "-", ",", "0,", ",0", "0,,1", "-1", "-0", "+0", "00", "01", "0,01", "0,-1", "0,+1", "0;1", "0.1", "0/1",
            "x", "0,x", "x,0", "\u0660", "0,\u0661", "\u00b2", "1_0", "()", "(0)", "(0,)", "[0]", "none",
            "0,1,", ",0,1",
        ):
            self.assert_invalid(f"add 1 {near}")
            self.assert_invalid(f"add -1 {near}")

    def test_more_than_20_digits(self):
        for number in ("1" + "0" * 20, "9" * 21, "1" * 100, "1" * 490, "0" * 21, "0" * 20 + "1"):
            for line in (f"add {number}", f"add -{number}", f"add {number} 0", f"add 1 {number}", f"add 1 0,{number}"):
                self.assert_invalid(line)

    def test_very_long_numbers(self):
        for many in (4301, 10000):
            self.assert_invalid("add " + "1" * many)
            self.assert_invalid("add 1 " + "1" * many)
            self.assert_invalid("add 1 " + "0," * many)

    def test_20_digits_are_right(self):
        for number in (LARGE, "1" + "0" * 19):
            console = Console("first")
            lines = (
                f"add {number}", f"add -{number}", f"add {number} 0,1", f"add 0 {number}", f"add -{number} 0,{number}",
            )
            self.assertEqual([console.say(line) for line in lines], ["0", "0,1", "0,1", "refused", "refused"])


class Making(ConsoleCase):
    def test_by_name(self):
        console = Console(way="newest")
        self.assertEqual([console.say(line="add 1"), console.say(line="add 1 0")], ["0", "1"])
        self.assertEqual(list(inspect.signature(Console).parameters), ["way"])
        self.assertEqual(list(inspect.signature(console.say).parameters), ["line"])

    def test_wrong_ways(self):
        self.assert_arguments(Console, {"way": "first"})

    def test_members_are_defined_in_the_class(self):
        self.assertIn("say", vars(Console))
        self.assertEqual(Console.__module__, "keptlikes.console")

    def test_truth_and_equality(self):
        console = Console("first")
        self.assertTrue(console)
        self.assertTrue(console == console)
        self.assertFalse(console != console)
        self.assertTrue(console != Console("first"))
        self.assertFalse(console == 3)


class Walks(ConsoleCase):
    """Long mixed walks, held against a plain list of the things that have arrived."""

    def test_walks(self):
        for number in range(60):
            way = WAYS[number % 6]
            dice, console, things = random.Random(number), Console(way), []
            for _ in range(40):
                self.do_one(dice, console, way, things)
            self.assert_has(console, way, things)

    def do_one(self, dice, console, way, things):
        word = dice.choice(("add", "add", "add", "undo", "kept", "free"))
        if word == "kept":
            self.assertEqual(console.say("kept"), kept_text(way, things))
        elif word == "free" and len(things) < 6:
            self.assertEqual(console.say("free"), free_text(way, things))
        elif word == "undo":
            expected = kept_text(way, things[:-1]) if things else "refused"
            self.assertEqual(console.say("undo"), expected)
            del things[-1:]
        elif word == "add":
            near = tuple(thing for thing in range(len(things) + 1) if dice.randrange(4) == 0)
            worth = dice.randrange(-2, 3)
            if len(things) == 9 or len(things) in near:
                self.assertEqual(console.say(line_of(worth, near)), "refused")
            else:
                things.append((worth, near))
                self.assertEqual(console.say(line_of(worth, near)), kept_text(way, things))


class EqualCalls(unittest.TestCase):
    def test_equal_lines_lead_to_equal_answers(self):
        lines = [line_of(worth, near) for worth, near in NINE] + ["add 1", "free", "undo", "undo", "free", "kept"]
        for way in WAYS:
            one, other = Console(way), Console(way)
            for line in lines:
                self.assertEqual(one.say(line), other.say(line))

    def test_kept_and_free_change_nothing(self):
        for way in WAYS:
            console = filled(way, NINE[:5])
            found = [console.say(line) for line in ("kept", "free") * 3]
            self.assertEqual(found, found[:2] * 3)

    def test_the_same_as_a_live_heap(self):
        for way in WAYS:
            console, live = Console(way), LiveHeap(way)
            for worth, near in NINE:
                self.assertEqual(console.say(line_of(worth, near)), listed(live.arrive(worth, near)))
            self.assertEqual(live.heap, Heap(*worths_and_pairs(NINE)))


if __name__ == "__main__":
    unittest.main()
