"""keptlikes.live: points 2 to 8, and the section of the interface."""

import inspect
import random
import unittest

from keptlikes.errors import (
    Busy,
    InvalidDeeds,
    InvalidNear,
    InvalidWay,
    InvalidWorth,
    NotALiveHeap,
    NothingToUndo,
    TooMany,
)
from keptlikes.heaps import Heap
from keptlikes.live import LiveHeap, attempt, within
from tests.helpers import Equal, ErrorCase, Refusing, deep, strange_values, wrong_arguments
from tests.oracle import WAYS, by_the_document

LARGE = 10 ** 20 - 1

# Worths and near things, in the order of arrival: nine things in which nearness does not pass on.
NINE = (
    (3, ()), (1, (0,)), (4, (1,)), (1, (1,)), (5, (0, 3)), (9, (2, 4)), (2, ()), (6, (5, 6)), (5, (0, 7)),
)


class Stop(Exception):
    """An error that nothing but a test raises."""


class Harder(BaseException):
    """One that `except Exception` does not catch."""


def as_deeds(things):
    return tuple(("arrive", worth, near) for worth, near in things)


def filled(way, things):
    live = LiveHeap(way)
    for worth, near in things:
        live.arrive(worth, near)
    return live


def pairs_of(things):
    return tuple(sorted((other, thing) for thing, (_, near) in enumerate(things) for other in near))


def kept_of(way, things):
    """What point 8 says of all that has arrived."""
    worths = tuple(worth for worth, _ in things)
    return by_the_document.__wrapped__(worths, pairs_of(things), way, tuple(range(len(things))))


def raising(error):
    def act(*_):
        raise error
    return act


class LiveCase(ErrorCase):
    def assert_shows(self, live, things, busy=False):
        """The live heap shows that just these things have arrived and were not taken back."""
        count = len(things)
        self.assertEqual((len(live), repr(live)), (count, f"LiveHeap({count} things)"))
        self.assertIs(bool(live), count > 0)
        self.assertIs(live.busy, busy)
        self.assertIs(type(live.kept), tuple)
        self.assertEqual(live.kept, kept_of(live.way, things))
        if not things:
            self.assertIsNone(live.heap)
        else:
            self.assertIs(type(live.heap), Heap)
            self.assertEqual(live.heap, Heap(tuple(worth for worth, _ in things), pairs_of(things)))

    def assert_taken_back(self, live, things):
        """One after the other can be taken back until there are none."""
        for count in range(len(things), 0, -1):
            self.assert_shows(live, things[:count])
            self.assertIsNone(live.undo())
        self.assert_shows(live, ())
        self.assertRaises(NothingToUndo, live.undo)
        self.assert_shows(live, ())


class Example(unittest.TestCase):
    def test_the_example(self):
        live = LiveHeap("better")
        live.arrive_all(("arrive", 1, ()), ("arrive", 2, (0,)))
        found = [
            live.kept, live.arrive(3, (1,)), live.heap.pairs, live.undo(), live.kept,
            attempt(live, len), repr(live),
        ]
        self.assertEqual(found, [(1,), (2,), ((0, 1), (1, 2)), None, (1,), 2, "LiveHeap(2 things)"])


class Creating(LiveCase):
    def test_without_things(self):
        for way in WAYS:
            live = LiveHeap(way)
            self.assertEqual((live.way, live.heap, live.kept, live.busy), (way, None, (), False))
            self.assert_shows(live, ())

    def test_by_name(self):
        self.assertEqual(LiveHeap(way="lots").way, "lots")
        self.assertEqual(list(inspect.signature(LiveHeap).parameters), ["way"])

    def test_wrong_ways(self):
        self.assert_arguments(LiveHeap, {"way": "first"})

    def test_members_are_defined_in_the_class(self):
        for name in ("arrive", "arrive_all", "undo", "trial", "__len__", "__repr__"):
            self.assertIn(name, vars(LiveHeap))
        for call in (LiveHeap, within, attempt):
            self.assertEqual(call.__module__, "keptlikes.live")


class Arriving(LiveCase):
    def test_nine_things_step_by_step(self):
        for way in WAYS:
            live = LiveHeap(way)
            for count, (worth, near) in enumerate(NINE):
                found = live.arrive(worth, near)
                self.assertIs(type(found), tuple)
                self.assertEqual(found, kept_of(way, NINE[:count + 1]))
                self.assert_shows(live, NINE[:count + 1])
            self.assert_taken_back(live, NINE)

    def test_by_name(self):
        live = LiveHeap("first")
        self.assertEqual(live.arrive(near=(), worth=4), (0,))
        self.assertEqual(live.arrive(near=(0,), worth=4), (0,))
        self.assert_shows(live, ((4, ()), (4, (0,))))
        self.assertEqual(list(inspect.signature(live.arrive).parameters), ["worth", "near"])

    def test_a_struck_thing_comes_back_with_best_only(self):
        things = ((1, ()), (2, (0,)), (3, (1,)))
        found = {way: [kept_of(way, things[:count]) for count in (1, 2, 3)] for way in WAYS}
        self.assertEqual(found["best"], [(0,), (1,), (0, 2)])
        self.assertEqual(found["better"], [(0,), (1,), (2,)])
        for way in WAYS:
            live = LiveHeap(way)
            self.assertEqual([live.arrive(*thing) for thing in things], found[way])

    def test_two_lots_that_an_arrival_joins(self):
        live = filled("lots", ((1, ()), (2, ())))
        self.assertEqual(live.kept, (0, 1))
        self.assertEqual(live.arrive(2, (0, 1)), (1,))
        self.assertEqual(live.arrive(3, (0,)), (3,))

    def test_near_all_and_near_none(self):
        for way in WAYS:
            alone = tuple((count, ()) for count in range(9))
            together = tuple((-count, tuple(range(count))) for count in range(9))
            for things in (alone, together):
                self.assert_shows(filled(way, things), things)

    def test_worths_of_20_digits(self):
        things = ((LARGE, ()), (-LARGE, (0,)), (LARGE - 1, (0, 1)), (0, ()))
        for way in WAYS:
            self.assert_shows(filled(way, things), things)

    def test_each_live_heap_is_for_itself(self):
        one, other = LiveHeap("first"), LiveHeap("first")
        one.arrive(1, ())
        self.assert_shows(other, ())
        other.arrive(2, ())
        other.arrive(3, (0,))
        self.assert_shows(one, ((1, ()),))

    def test_what_was_shown_before_does_not_change(self):
        live = filled("newest", NINE[:3])
        heap, held = live.heap, live.kept
        live.arrive(7, (0, 1, 2))
        self.assertEqual((heap, held), (filled("newest", NINE[:3]).heap, kept_of("newest", NINE[:3])))


class Undoing(LiveCase):
    def test_nothing_to_undo(self):
        for way in WAYS:
            self.assertRaises(NothingToUndo, LiveHeap(way).undo)
            live = filled(way, NINE[:1])
            live.undo()
            self.assertRaises(NothingToUndo, live.undo)
            self.assert_shows(live, ())

    def test_things_arrive_again(self):
        for way in WAYS:
            live = filled(way, NINE)
            for _ in range(4):
                live.undo()
            live.arrive(8, (0, 4))
            self.assert_taken_back(live, (*NINE[:5], (8, (0, 4))))
            live.arrive(2, ())
            self.assert_taken_back(live, ((2, ()),))

    def test_things_of_arrive_all_are_taken_back_one_by_one(self):
        for way in WAYS:
            live = filled(way, NINE[:2])
            live.arrive_all(*as_deeds(NINE[2:7]))
            live.arrive(*NINE[7])
            self.assert_taken_back(live, NINE[:8])

    def test_it_takes_no_arguments(self):
        self.assertEqual(list(inspect.signature(LiveHeap("first").undo).parameters), [])
        self.assertEqual(list(inspect.signature(LiveHeap("first").trial).parameters), [])


class ArrivingAll(LiveCase):
    def test_several_things(self):
        for way in WAYS:
            for before in (0, 1, 4, 9):
                live = filled(way, NINE[:before])
                self.assertIsNone(live.arrive_all(*as_deeds(NINE[before:])))
                self.assert_taken_back(live, NINE)

    def test_no_things(self):
        for before in (0, 3, 9):
            live = filled("best", NINE[:before])
            self.assertIsNone(live.arrive_all())
            self.assertIsNone(live.arrive_all(watch=None))
            self.assertIsNone(live.arrive_all(watch=raising(Stop())))
            self.assert_shows(live, NINE[:before])

    def test_the_parameters(self):
        parameters = list(inspect.signature(LiveHeap("first").arrive_all).parameters.values())
        self.assertEqual([parameter.name for parameter in parameters], ["deeds", "watch"])
        self.assertEqual(parameters[0].kind, inspect.Parameter.VAR_POSITIONAL)
        self.assertEqual(parameters[1].kind, inspect.Parameter.KEYWORD_ONLY)
        self.assertRaises(TypeError, LiveHeap("first").arrive_all, deeds=())

    def test_watch_is_called_after_each_deed(self):
        for way in WAYS:
            live = filled(way, NINE[:2])
            seen = []

            def watch(*given):
                seen.append(given[1])
                self.assertEqual(len(given), 2)
                self.assertIs(given[0], live)
                self.assert_shows(live, NINE[:2 + len(seen)], busy=True)

            self.assertIsNone(live.arrive_all(*as_deeds(NINE[2:6]), watch=watch))
            self.assertEqual(seen, [0, 1, 2, 3])
            self.assert_shows(live, NINE[:6])

    def test_what_watch_returns_does_not_matter(self):
        live = LiveHeap("first")
        live.arrive_all(*as_deeds(NINE), watch=lambda *_: False)
        self.assert_shows(live, NINE)

    def test_a_watch_that_is_false_is_called(self):
        class Watch:
            calls = 0

            def __bool__(self):
                return False

            def __call__(self, live, place):
                self.calls += 1

        watch = Watch()
        LiveHeap("first").arrive_all(*as_deeds(NINE), watch=watch)
        self.assertEqual(watch.calls, 9)

    def test_a_deed_that_cannot_be_done(self):
        wrong = (("arrive", True, ()), ("arrive", 1, (5,)), ("arrive", 1, (2, 1)), ("arrive", None, None))
        for way in WAYS:
            for deed in wrong:
                for place in (0, 1, 3):
                    live = filled(way, NINE[:2])
                    seen = []
                    deeds = [*as_deeds(NINE[2:5])]
                    deeds.insert(place, deed)
                    with self.assertRaises((InvalidWorth, InvalidNear)):
                        live.arrive_all(*deeds, watch=lambda _, at: seen.append(at))
                    self.assertEqual(seen, list(range(place)))
                    self.assert_taken_back(live, NINE[:2])

    def test_what_a_deed_that_cannot_be_done_raises(self):
        for start in ((), NINE[:2]):
            live = filled("newest", start)
            good = ("arrive", 4, ())
            for worth in (*strange_values(), "1", (1,)):
                self.assert_value(InvalidWorth, worth, live.arrive_all, good, ("arrive", worth, ()), good)
                self.assert_value(InvalidWorth, worth, live.arrive_all, good, ("arrive", worth, None))
            for near in (*strange_values(), 0, "0"):
                self.assert_index(InvalidNear, None, live.arrive_all, good, ("arrive", 1, near), good)
            count = len(start) + 1
            for wrong in (count, -1, True, None, "0", (0,)):
                self.assert_index(InvalidNear, 1, live.arrive_all, good, ("arrive", 1, (0, wrong)))
            self.assert_shows(live, start)

    def test_the_first_deed_that_cannot_be_done_is_told(self):
        live = LiveHeap("first")
        wrong = []
        self.assert_value(
            InvalidWorth, wrong, live.arrive_all, ("arrive", 1, ()), ("arrive", wrong, [0]), ("arrive", None, ()))
        self.assert_index(
            InvalidNear, 0, live.arrive_all, ("arrive", 1, (0,)), ("arrive", None, ()))
        self.assert_shows(live, ())

    def test_a_thing_of_the_same_call_can_be_near(self):
        live = LiveHeap("better")
        live.arrive_all(("arrive", 1, ()), ("arrive", 2, (0,)), ("arrive", 3, (0, 1)))
        self.assert_shows(live, ((1, ()), (2, (0,)), (3, (0, 1))))
        self.assert_index(InvalidNear, 1, live.arrive_all, ("arrive", 1, (0, 3)), ("arrive", 1, ()))

    def test_too_many(self):
        for before in (0, 5, 9):
            live = filled("lots", NINE[:before])
            seen = []
            deeds = (*as_deeds(NINE[before:]), ("arrive", 1, (0,)))
            self.assert_error(
                TooMany, "limit", 9, live.arrive_all, *deeds, watch=lambda _, place: seen.append(place))
            self.assertEqual(seen, list(range(9 - before)))
            self.assert_taken_back(live, NINE[:before])

    def test_what_is_no_deed(self):
        good = ("arrive", 1, ())
        wrong = [
            (), ("arrive",), ("arrive", 1), ("arrive", 1, (), ()), ["arrive", 1, ()], (1, "arrive", ()),
            ("Arrive", 1, ()), ("arrive ", 1, ()), ("", 1, ()), ("undo", 1, ()), (b"arrive", 1, ()), (None, 1, ()),
            (Equal(), 1, ()), (Refusing(), 1, ()), (("arrive",), 1, ()), (["arrive"], 1, ()), ((), (), ()),
            "arrive", "arr", 3, good[1:], (good,), deep(15), LiveHeap("first"), *strange_values(),
        ]
        for before in (0, 4, 9):
            live = filled("best", NINE[:before])
            seen = []
            for deed in wrong:
                for deeds, index in (
                    ((deed,), 0), ((good, deed, good), 1), ((good, good, deed, None), 2), ((deed, deed), 0),
                ):
                    self.assert_index(InvalidDeeds, index, live.arrive_all, *deeds)
                    self.assert_index(InvalidDeeds, index, live.arrive_all, *deeds, watch=seen.append)
            self.assertEqual(seen, [])
            self.assert_taken_back(live, NINE[:before])

    def test_deeds_are_looked_at_before_the_first_one_is_done(self):
        live = LiveHeap("first")
        self.assert_index(InvalidDeeds, 2, live.arrive_all, ("arrive", None, ()), ("arrive", 1, [0]), ("arrive",))
        self.assert_index(InvalidDeeds, 9, live.arrive_all, *as_deeds(NINE), None, ("arrive", None, None))
        self.assert_shows(live, ())

    def test_worth_and_near_are_looked_at_when_the_deed_is_done(self):
        live = LiveHeap("first")
        seen = []
        worth = []
        with self.assertRaises(InvalidWorth) as caught:
            live.arrive_all(("arrive", 1, ()), ("arrive", worth, ()), watch=lambda _, at: seen.append((at, len(live))))
        self.assertIs(caught.exception.value, worth)
        self.assertEqual(seen, [(0, 1)])
        self.assert_shows(live, ())

    def test_a_watch_that_raises_an_error(self):
        for way in WAYS:
            for error in (Stop(), Harder(), KeyboardInterrupt(), InvalidWorth(3), ZeroDivisionError()):
                for last in (0, 2, 6):
                    live = filled(way, NINE[:2])

                    def watch(_, place):
                        if place == last:
                            raise error

                    with self.assertRaises(type(error)) as caught:
                        live.arrive_all(*as_deeds(NINE[2:]), watch=watch)
                    self.assertIs(caught.exception, error)
                    self.assert_shows(live, NINE[:2])
                    live.arrive_all(*as_deeds(NINE[2:]))
                    self.assert_taken_back(live, NINE)


class WhileBusy(LiveCase):
    def during(self, live, act):
        """What act returned each time that it was called during arrive_all."""
        found = []
        live.arrive_all(("arrive", 1, ()), ("arrive", 2, ()), watch=lambda *_: found.append(act()))
        self.assertEqual(len(found), 2)
        return found

    def test_it_is_busy(self):
        live = LiveHeap("first")
        self.assertEqual(self.during(live, lambda: live.busy), [True, True])
        self.assertIs(live.busy, False)

    def assert_busy(self, live, call, *given, **named):
        def act():
            before = (live.heap, live.kept, len(live))
            with self.assertRaises(Busy) as caught:
                call(*given, **named)
            self.assertIs(type(caught.exception), Busy)
            self.assertEqual((live.heap, live.kept, len(live)), before)
            self.assertIs(live.busy, True)

        self.during(live, act)
        self.assert_shows(live, ((1, ()), (2, ())))

    def test_what_raises_busy(self):
        for way in WAYS:
            self.assert_busy(live := LiveHeap(way), live.arrive, 1, ())
            self.assert_busy(live := LiveHeap(way), live.arrive, near=(), worth=1)
            self.assert_busy(live := LiveHeap(way), live.arrive_all)
            self.assert_busy(live := LiveHeap(way), live.arrive_all, ("arrive", 1, ()), watch=len)
            self.assert_busy(live := LiveHeap(way), live.undo)
            self.assert_busy(live := LiveHeap(way), live.trial)
            self.assert_busy(live := LiveHeap(way), attempt, live, len)

    def test_busy_comes_ahead_of_all_else(self):
        for wrong in strange_values():
            self.assert_busy(live := LiveHeap("best"), live.arrive, wrong, wrong)
            self.assert_busy(live := LiveHeap("best"), live.arrive_all, wrong)
        self.assert_busy(live := LiveHeap("best"), attempt, live, None)

    def test_busy_comes_ahead_of_too_many_and_of_nothing_to_undo(self):
        live = filled("first", NINE[:8])
        found = []

        def watch(_, place):
            for call in (lambda: live.arrive(1, ()), lambda: live.arrive_all(("arrive", 1, ())), live.undo):
                self.assertRaises(Busy, call)
            found.append(place)

        live.arrive_all(as_deeds(NINE)[8], watch=watch)
        self.assertEqual(found, [0])
        self.assert_shows(live, NINE)
        live = LiveHeap("first")
        trial = live.trial()
        trial.__enter__()

        def empty(_, place):
            trial.__exit__(None, None, None)
            self.assert_shows(live, (), busy=True)
            self.assertRaises(Busy, live.undo)
            found.append(place)

        live.arrive_all(("arrive", 1, ()), watch=empty)
        self.assertEqual(found, [0, 0])
        self.assert_shows(live, ())

    def test_busy_that_is_not_caught_ends_the_call(self):
        for act in (
            lambda live, _: live.arrive(1, ()), lambda live, _: live.arrive_all(), lambda live, _: live.undo(),
            lambda live, _: live.trial(), lambda live, _: attempt(live, len),
        ):
            live = filled("better", NINE[:3])
            with self.assertRaises(Busy):
                live.arrive_all(*as_deeds(NINE[3:]), watch=act)
            self.assert_taken_back(live, NINE[:3])

    def test_all_else_can_be_used(self):
        live = LiveHeap("newest")
        found = self.during(live, lambda: (live.way, live.heap, live.kept, len(live), repr(live), live == live))
        self.assertEqual(found, [
            ("newest", Heap((1,), ()), (0,), 1, "LiveHeap(1 things)", True),
            ("newest", Heap((1, 2), ()), (0, 1), 2, "LiveHeap(2 things)", True),
        ])

    def test_not_busy_after_an_error(self):
        live = LiveHeap("newest")
        for deeds in ((("arrive", None, ()),), (None,), (("arrive", 1, ()),) * 10):
            with self.assertRaises((InvalidWorth, InvalidDeeds, TooMany)):
                live.arrive_all(*deeds)
            self.assertIs(live.busy, False)
        self.assertRaises(Stop, live.arrive_all, ("arrive", 1, ()), watch=raising(Stop()))
        self.assertIs(live.busy, False)
        self.assertEqual(live.arrive(1, ()), (0,))

    def test_another_live_heap_is_used_meanwhile(self):
        live, other = LiveHeap("first"), LiveHeap("best")

        def act():
            self.assertIs(other.busy, False)
            other.arrive(len(other), ())
            other.arrive_all(("arrive", 5, (0,)), ("arrive", 6, ()))
            other.undo()
            with other.trial():
                other.arrive(7, ())
            return attempt(other, len)

        self.assertEqual(self.during(live, act), [2, 4])
        self.assert_shows(live, ((1, ()), (2, ())))
        self.assert_shows(other, ((0, ()), (5, (0,)), (2, ()), (5, (0,))))

    def test_two_live_heaps_that_watch_one_another(self):
        live, other = LiveHeap("first"), LiveHeap("best")

        def watch(*_):
            self.assertRaises(Stop, other.arrive_all, ("arrive", 2, ()), watch=check)
            self.assert_shows(other, ())
            self.assertIs(live.busy, True)

        def check(*_):
            self.assertIs(other.busy, True)
            self.assertRaises(Busy, live.arrive, 1, ())
            self.assertRaises(Busy, other.arrive, 1, ())
            raise Stop()

        live.arrive_all(("arrive", 1, ()), watch=watch)
        self.assert_shows(live, ((1, ()),))


class Trying(LiveCase):
    def test_a_block_brings_back_the_things(self):
        for way in WAYS:
            for before in (0, 1, 5, 9):
                live = filled(way, NINE[:before])
                with live.trial() as handed:
                    self.assertIs(handed, live)
                    self.assert_shows(live, NINE[:before])
                    for _ in range(before):
                        live.undo()
                    live.arrive_all(("arrive", 7, ()), ("arrive", 7, (0,)))
                self.assert_taken_back(live, NINE[:before])

    def test_a_block_that_adds_only(self):
        for way in WAYS:
            live = filled(way, NINE[:3])
            with live.trial():
                live.arrive_all(*as_deeds(NINE[3:]))
                self.assert_shows(live, NINE)
            self.assert_taken_back(live, NINE[:3])

    def test_a_block_without_changes(self):
        live = filled("best", NINE)
        with live.trial():
            pass
        self.assert_taken_back(live, NINE)

    def test_a_block_that_ends_with_an_error(self):
        for error in (Stop(), Harder(), KeyboardInterrupt(), InvalidWay("x"), Busy()):
            live = filled("better", NINE[:4])
            with self.assertRaises(type(error)) as caught:
                with live.trial():
                    live.arrive(3, (1, 2))
                    raise error
            self.assertIs(caught.exception, error)
            self.assert_taken_back(live, NINE[:4])

    def test_a_block_that_is_left_in_another_way(self):
        live = filled("first", NINE[:2])

        def leave():
            for count in range(3):
                with live.trial():
                    live.arrive(1, ())
                    if count == 0:
                        continue
                    if count == 1:
                        break
            with live.trial():
                live.undo()
                return len(live)

        self.assertEqual(leave(), 1)
        self.assert_taken_back(live, NINE[:2])

    def test_an_error_of_the_live_heap_in_a_block(self):
        live = LiveHeap("first")
        with self.assertRaises(NothingToUndo):
            with live.trial():
                live.arrive(1, ())
                live.undo()
                live.undo()
        self.assert_shows(live, ())

    def test_the_things_of_the_start_of_the_block_and_not_of_the_call(self):
        live = filled("lots", NINE[:2])
        trial = live.trial()
        live.arrive(*NINE[2])
        with trial:
            live.undo()
            live.undo()
        self.assert_taken_back(live, NINE[:3])

    def test_a_context_manager_is_used_again(self):
        live = LiveHeap("newest")
        trial = live.trial()
        for count in range(9):
            with trial as handed:
                self.assertIs(handed, live)
                live.arrive(9, ())
            self.assert_shows(live, NINE[:count])
            live.arrive(*NINE[count])
        self.assert_taken_back(live, NINE)

    def test_a_block_within_a_block(self):
        for way in WAYS:
            live = filled(way, NINE[:2])
            with live.trial():
                live.arrive(*NINE[2])
                with live.trial():
                    live.undo()
                    live.undo()
                    self.assert_shows(live, NINE[:1])
                self.assert_shows(live, NINE[:3])
                live.arrive(*NINE[3])
            self.assert_taken_back(live, NINE[:2])

    def test_a_context_manager_within_its_own_block(self):
        for way in WAYS:
            live = filled(way, NINE[:1])
            trial = live.trial()
            with trial:
                live.arrive(*NINE[1])
                with trial:
                    live.arrive(*NINE[2])
                    with trial, trial:
                        live.undo()
                        live.undo()
                        live.undo()
                    self.assert_shows(live, NINE[:3])
                    with self.assertRaises(Stop):
                        with trial:
                            live.arrive(*NINE[3])
                            raise Stop()
                    self.assert_shows(live, NINE[:3])
                self.assert_shows(live, NINE[:2])
            self.assert_taken_back(live, NINE[:1])

    def test_blocks_that_do_not_end_in_turn(self):
        live = filled("first", NINE[:1])
        one, other = live.trial(), live.trial()
        one.__enter__()
        live.arrive(*NINE[1])
        other.__enter__()
        live.arrive(*NINE[2])
        one.__exit__(None, None, None)
        self.assert_shows(live, NINE[:1])
        other.__exit__(None, None, None)
        self.assert_taken_back(live, NINE[:2])

    def test_arrive_all_in_a_block(self):
        live = filled("best", NINE[:2])
        with live.trial():
            live.arrive_all(*as_deeds(NINE[2:5]))
            self.assertRaises(Stop, live.arrive_all, ("arrive", 1, ()), watch=raising(Stop()))
            self.assert_shows(live, NINE[:5])
        self.assert_taken_back(live, NINE[:2])


class TryingWhileBusy(LiveCase):
    def test_a_block_during_arrive_all(self):
        live = filled("better", NINE[:2])
        trial = live.trial()
        seen = []

        def watch(_, place):
            with trial as handed:
                self.assertIs(handed, live)
                self.assertRaises(Busy, live.undo)
                seen.append(place)
            self.assert_shows(live, NINE[:3 + place], busy=True)

        live.arrive_all(*as_deeds(NINE[2:5]), watch=watch)
        self.assertEqual(seen, [0, 1, 2])
        self.assert_taken_back(live, NINE[:5])

    def test_a_block_during_arrive_all_that_ends_with_an_error(self):
        live = filled("better", NINE[:2])
        trial = live.trial()
        caught = []

        def watch(_, place):
            try:
                with trial:
                    live.arrive(1, ())
            except Busy:
                caught.append(place)
            self.assert_shows(live, NINE[:3 + place], busy=True)

        live.arrive_all(*as_deeds(NINE[2:5]), watch=watch)
        self.assertEqual(caught, [0, 1, 2])
        self.assert_taken_back(live, NINE[:5])

    def test_a_block_from_before_the_call_ends_in_it(self):
        for way in WAYS:
            live = filled(way, NINE[:2])
            trial = live.trial()
            trial.__enter__()
            live.arrive(*NINE[2])

            def watch(_, place):
                if place == 1:
                    trial.__exit__(None, None, None)
                    self.assert_shows(live, NINE[:2], busy=True)
                    self.assertRaises(Busy, live.arrive, 1, ())

            live.arrive_all(("arrive", 8, ()), ("arrive", 8, (3,)), *as_deeds(NINE[2:4]), watch=watch)
            self.assert_taken_back(live, NINE[:4])

    def test_a_block_that_ends_in_a_call_that_ends_with_an_error(self):
        live = filled("newest", NINE[:2])
        trial = live.trial()
        trial.__enter__()
        live.arrive(*NINE[2])

        def watch(_, place):
            if place == 0:
                trial.__exit__(None, None, None)
            if place == 1:
                raise Stop()

        deeds = (("arrive", 8, ()), ("arrive", 8, (0,)), ("arrive", 8, ()))
        self.assertRaises(Stop, live.arrive_all, *deeds, watch=watch)
        self.assert_taken_back(live, NINE[:3])

    def test_near_things_that_the_end_of_a_block_took_away(self):
        live = filled("first", NINE[:1])
        trial = live.trial()
        trial.__enter__()
        live.arrive(*NINE[1])
        deeds = (("arrive", 8, (0, 1)), ("arrive", 8, (0, 1)))
        self.assert_index(
            InvalidNear, 1, live.arrive_all, *deeds, watch=lambda *_: trial.__exit__(None, None, None))
        self.assert_taken_back(live, NINE[:2])

    def test_a_block_that_begins_in_the_call_and_ends_behind_it(self):
        live = filled("first", NINE[:1])
        trial = live.trial()
        live.arrive_all(*as_deeds(NINE[1:4]), watch=lambda _, at: trial.__enter__() if at == 1 else None)
        self.assert_shows(live, NINE[:4])
        trial.__exit__(None, None, None)
        self.assert_taken_back(live, NINE[:3])

    def test_within_during_arrive_all(self):
        live = filled("lots", NINE[:1])
        trial = live.trial()
        found = []
        live.arrive_all(*as_deeds(NINE[1:3]), watch=lambda *_: found.append(within(trial, len)))
        self.assertEqual(found, [2, 3])
        self.assert_taken_back(live, NINE[:3])


class WithinAndAttempt(LiveCase):
    def add_and_count(self, live):
        live.arrive(1, ())
        return len(live), live.kept

    def test_what_act_returns(self):
        live = filled("first", NINE[:2])
        for _ in range(3):
            self.assertEqual(within(live.trial(), self.add_and_count), (3, (0, 2)))
            self.assertEqual(attempt(live, self.add_and_count), (3, (0, 2)))
            self.assert_shows(live, NINE[:2])
        self.assertIsNone(attempt(live, lambda _: None))
        result = []
        self.assertIs(attempt(live, lambda _: result), result)
        self.assertIs(within(live.trial(), lambda handed: handed), live)
        self.assertIs(attempt(live, lambda handed: handed), live)

    def test_by_name(self):
        live = filled("first", NINE[:2])
        self.assertEqual(within(act=len, trial=live.trial()), 2)
        self.assertEqual(attempt(act=self.add_and_count, live=live), (3, (0, 2)))
        self.assertEqual(list(inspect.signature(within).parameters), ["trial", "act"])
        self.assertEqual(list(inspect.signature(attempt).parameters), ["live", "act"])

    def test_act_gets_the_live_heap_alone(self):
        given = []
        live = LiveHeap("first")
        attempt(live, lambda *told: given.append(told))
        within(live.trial(), lambda *told: given.append(told))
        for told in given:
            self.assertEqual(len(told), 1)
            self.assertIs(told[0], live)

    def test_errors_of_act_are_passed_on(self):
        for error in (Stop(), Harder(), NotALiveHeap(1), Busy(), StopIteration(), GeneratorExit()):
            live = filled("best", NINE[:2])

            def act(handed):
                handed.undo()
                handed.arrive_all(("arrive", 5, ()), ("arrive", 5, ()))
                raise error

            for call in (lambda: attempt(live, act), lambda: within(live.trial(), act)):
                with self.assertRaises(type(error)) as caught:
                    call()
                self.assertIs(caught.exception, error)
                self.assert_shows(live, NINE[:2])

    def test_within_uses_a_context_manager_again(self):
        live = filled("best", NINE[:2])
        trial = live.trial()
        self.assertEqual([within(trial, self.add_and_count)[0] for _ in range(3)], [3, 3, 3])
        nested = within(trial, lambda _: (live.undo(), within(trial, self.add_and_count)[0], len(live)))
        self.assertEqual(nested, (None, 2, 1))
        self.assert_taken_back(live, NINE[:2])

    def test_an_attempt_within_an_attempt(self):
        live = filled("best", NINE[:2])
        found = attempt(live, lambda _: (live.arrive(1, ()), attempt(live, self.add_and_count)[0], len(live)))
        self.assertEqual(found[1:], (4, 3))
        self.assert_shows(live, NINE[:2])

    def test_no_live_heap(self):
        called = []
        wrong = (*strange_values(), 3, "live", (), deep(15), Heap((1,), ()), LiveHeap, LiveHeap("first").trial())
        for live in wrong:
            self.assert_value(NotALiveHeap, live, attempt, live, called.append)
            self.assert_value(NotALiveHeap, live, attempt, act=None, live=live)
        self.assertEqual(called, [])

    def test_no_live_heap_comes_ahead_of_busy(self):
        live = LiveHeap("first")
        live.arrive_all(("arrive", 1, ()), watch=lambda *_: self.assert_value(NotALiveHeap, None, attempt, None, len))
        self.assert_shows(live, ((1, ()),))


class WrongArguments(LiveCase):
    def each_start(self):
        return [NINE[:count] for count in (0, 1, 3, 9)]

    def test_worth(self):
        for things in self.each_start():
            live = filled("first", things)
            for worth in (*strange_values(), "1", "", (1,), (), deep(15), live):
                self.assert_value(InvalidWorth, worth, live.arrive, worth, ())
                self.assert_value(InvalidWorth, worth, live.arrive, worth, [])
                self.assert_value(InvalidWorth, worth, live.arrive, near=(9,), worth=worth)
            self.assert_taken_back(live, things)

    def test_near_no_tuple(self):
        for things in self.each_start():
            live = filled("best", things)
            for near in (*strange_values(), 0, "0", "", live):
                self.assert_index(InvalidNear, None, live.arrive, 1, near)
                self.assert_index(InvalidNear, None, live.arrive, near=near, worth=1)
            self.assert_taken_back(live, things)

    def test_near_with_a_wrong_element(self):
        for things in self.each_start():
            live = filled("better", things)
            count = len(things)
            for wrong in (*strange_values(), count, count + 1, -1, LARGE, "0", "", (0,), (), deep(14), live):
                for right in range(count + 1):
                    near = (*range(right), wrong, *range(count + 2))
                    self.assert_index(InvalidNear, right, live.arrive, 1, near)
            self.assert_taken_back(live, things)

    def test_near_things_twice_or_in_a_wrong_order(self):
        for before in (3, 9):
            live = filled("lots", NINE[:before])
            for near, index in (
                ((0, 0), 1), ((1, 0), 1), ((2, 1, 0), 1), ((0, 2, 1), 2), ((0, 1, 1, 2), 2), ((0, 1, 2, 2), 3),
                ((0, 1, 2, 0), 3), ((1, 0, None), 1), ((0, 1, 9), 2), ((9, 0), 0),
            ):
                self.assert_index(InvalidNear, index, live.arrive, 1, near)
            self.assert_taken_back(live, NINE[:before])

    def test_a_thing_is_not_near_itself(self):
        live = LiveHeap("first")
        self.assert_index(InvalidNear, 0, live.arrive, 1, (0,))
        live.arrive(1, ())
        self.assert_index(InvalidNear, 1, live.arrive, 1, (0, 1))
        self.assert_shows(live, ((1, ()),))

    def test_a_thing_that_was_taken_back_is_not_near(self):
        live = filled("first", NINE[:3])
        live.undo()
        self.assert_index(InvalidNear, 0, live.arrive, 1, (2,))
        self.assertEqual(live.arrive(1, (0, 1)), (0,))

    def test_too_many(self):
        for way in WAYS:
            live = filled(way, NINE)
            for near in ((), (0,), (8,), tuple(range(9))):
                self.assert_error(TooMany, "limit", 9, live.arrive, 1, near)
                self.assert_error(TooMany, "limit", 9, live.arrive, near=near, worth=LARGE)
            self.assert_value(InvalidWorth, None, live.arrive, None, ())
            self.assert_index(InvalidNear, 0, live.arrive, 1, (9,))
            self.assert_taken_back(live, NINE)

    def test_ways(self):
        error, values = wrong_arguments()["way"]
        for way in values:
            self.assert_value(error, way, LiveHeap, way)
            self.assert_value(error, way, LiveHeap, way=way)


class Equality(unittest.TestCase):
    def test_a_live_heap_is_equal_to_itself_only(self):
        live, other = filled("first", NINE[:2]), filled("first", NINE[:2])
        self.assertTrue(live == live)
        self.assertFalse(live != live)
        for value in (other, LiveHeap("first"), live.heap, *strange_values(), 2, "LiveHeap(2 things)", (0, 1)):
            self.assertIs(live == value, False)
            self.assertIs(live != value, True)
        with live.trial() as handed:
            self.assertTrue(live == handed)

    def test_truth(self):
        live = LiveHeap("first")
        self.assertFalse(live)
        live.arrive(1, ())
        self.assertTrue(live)
        self.assertTrue(live.trial())


class Walks(LiveCase):
    """Long mixed walks, held against a plain list of the things that have arrived."""

    def test_walks(self):
        for number in range(60):
            self.walk(random.Random(number), LiveHeap(WAYS[number % 6]))

    def walk(self, dice, live):
        things = []
        for _ in range(25):
            self.do_one(dice, live, things, 3)
            self.assert_shows(live, things)
        self.assert_taken_back(live, things)

    def do_one(self, dice, live, things, depth):
        many = dice.randrange(10)
        if many < 4:
            self.let_arrive(live, things, self.some_thing(dice, len(things)))
        elif many < 6:
            self.take_back(live, things)
        elif many < 8 or depth == 0:
            self.let_all_arrive(dice, live, things)
        else:
            self.try_some(dice, live, things, depth)

    def some_thing(self, dice, count):
        near = tuple(thing for thing in range(count) if dice.randrange(3) == 0)
        return dice.randrange(-2, 3), near

    def let_arrive(self, live, things, thing):
        if len(things) == 9:
            self.assertRaises(TooMany, live.arrive, *thing)
        else:
            things.append(thing)
            self.assertEqual(live.arrive(*thing), kept_of(live.way, things))

    def take_back(self, live, things):
        if things:
            self.assertIsNone(live.undo())
            things.pop()
        else:
            self.assertRaises(NothingToUndo, live.undo)

    def let_all_arrive(self, dice, live, things):
        more = [self.some_thing(dice, len(things) + count) for count in range(dice.randrange(4))]
        stop = dice.randrange(5)
        seen = []

        def watch(_, place):
            self.assert_shows(live, [*things, *more[:place + 1]], busy=True)
            seen.append(place)
            if place == stop:
                raise Stop()

        room = 9 - len(things)
        if stop < min(len(more), room):
            self.assertRaises(Stop, live.arrive_all, *as_deeds(more), watch=watch)
        elif len(more) > room:
            self.assertRaises(TooMany, live.arrive_all, *as_deeds(more), watch=watch)
        else:
            self.assertIsNone(live.arrive_all(*as_deeds(more), watch=watch))
            self.assertEqual(seen, list(range(len(more))))
            things.extend(more)

    def try_some(self, dice, live, things, depth):
        before = list(things)
        fails = dice.randrange(2) == 0
        try:
            with live.trial():
                for _ in range(dice.randrange(5)):
                    self.do_one(dice, live, things, depth - 1)
                    self.assert_shows(live, things)
                if fails:
                    raise Stop()
        except Stop:
            self.assertTrue(fails)
        things[:] = before


class EqualCalls(unittest.TestCase):
    def test_equal_calls_lead_to_equal_results(self):
        for way in WAYS:
            one, other = LiveHeap(way), LiveHeap(way)
            for worth, near in NINE:
                self.assertEqual(one.arrive(worth, near), other.arrive(worth, near))
                self.assertEqual((one.heap, one.kept, len(one)), (other.heap, other.kept, len(other)))
                self.assertEqual(attempt(one, lambda live: live.kept), attempt(one, lambda live: live.kept))


if __name__ == "__main__":
    unittest.main()
