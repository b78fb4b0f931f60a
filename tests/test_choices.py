"""Points 34 to 38, and guarantees 5, 6 and 7: best_plan, best_beat and fewest_stations."""

import unittest

from anyrowline import choices
from anyrowline.checking import bounds_hold
from anyrowline.choices import best_beat, best_plan, fewest_stations
from anyrowline.lines import Line, free_line, with_slips
from anyrowline.plans import is_plan
from anyrowline.safety import keeps, safe
from trials import (HUGE, NO_INTEGERS, ODD_VALUES, SMALL, Trial, all_plans, is_kept, least_by_trial, random_line, some)

WRONG_WINDOWS = [(), [], (0,) * 25, (0, -1), (0, 300001), (-1,), (0, None), (True,), (0, "0"), (0, (0,)), (HUGE,),
                 ((0, 0),), *[value for value in ODD_VALUES if value not in ((0,), [0])]]
WRONG_BEATS = [300001, -1, -300000, HUGE, -HUGE, SMALL, *NO_INTEGERS]


class Choices(Trial):
    def assert_plan(self, line, windows, beat, plan):
        """A plan for as many stations as windows that fits the order and keeps the windows with the beat."""
        self.assert_plain(plan)
        self.assertIs(is_plan(line, len(windows), plan), True)
        self.assertIs(keeps(line, plan, windows, beat), True)
        if max(windows) <= 1000:
            self.assertTrue(is_kept(line, plan, windows, beat))

    def assert_best_plan(self, line, windows, beat):
        """What best_plan returns is as told; returns the plan, or None if it is refuted."""
        value = best_plan(line, windows, beat)
        self.assert_plain(value)
        self.assertEqual(value, best_plan(line, list(windows), beat))
        if value[0] == "refutation":
            self.assertEqual(len(value), 2)
            self.assert_refutes(line, windows, beat, value[1])
            return None
        word, plan, bounds = value
        self.assertEqual((word, len(bounds)), ("plan", len(windows)))
        self.assert_plan(line, windows, beat, plan)
        for station, window in enumerate(windows):
            self.assertEqual(safe(line, plan, station, window, beat), ("bounds", bounds[station]))
            self.assertIs(bounds_hold(line, plan, station, window, beat, bounds[station]), True)
        return plan

    def assert_best_beat(self, line, windows):
        """What best_beat returns is as told; returns the beat."""
        value = best_beat(line, windows)
        self.assert_plain(value)
        self.assertEqual(value, best_beat(line, list(windows)))
        beat, plan, tree = value
        self.assertIs(type(beat), int)
        self.assert_plan(line, windows, beat, plan)
        if beat == 0:
            self.assertIsNone(tree)
        else:
            self.assert_refutes(line, windows, beat - 1, tree)
        return beat

    def assert_fewest(self, line, windows, beat):
        """What fewest_stations returns is as told; returns the number."""
        value = fewest_stations(line, windows, beat)
        self.assert_plain(value)
        self.assertEqual(value, fewest_stations(line, list(windows), beat))
        many, plan, tree = value
        if many is None:
            self.assertIsNone(plan)
            self.assert_refutes(line, windows, beat, tree)
        else:
            self.assertTrue(1 <= many <= len(windows))
            self.assert_plan(line, windows[:many], beat, plan)
            if many == 1:
                self.assertIsNone(tree)
            else:
                self.assert_refutes(line, windows[:many - 1], beat, tree)
        return many


class OneLine(Choices):
    def test_the_overview(self):
        # Both tasks 0 and 1 take 6 at once, 9 with the slip; the third one takes 3.
        self.assertEqual(self.assert_best_beat(SMALL, (0, 0)), 7)
        self.assertEqual(self.assert_best_beat(SMALL, (0, 0, 0)), 5)
        self.assertEqual(self.assert_best_beat(SMALL, (0,)), 12)
        self.assertEqual(self.assert_best_beat(SMALL, (300000,)), 8)
        self.assertIn(self.assert_best_plan(SMALL, (0, 0, 0), 5), ((0, 1, 2), (0, 2, 1), (1, 2, 0)))
        self.assertIsNone(self.assert_best_plan(SMALL, (0, 0, 0), 4))
        self.assertIsNone(self.assert_best_plan(SMALL, (0, 0), 6))
        for beat, many in ((12, 1), (11, 2), (8, 2), (7, 2), (6, 3), (5, 3), (4, None), (0, None), (300000, 1)):
            self.assertEqual(self.assert_fewest(SMALL, (0, 0, 0), beat), many)

    def test_the_order_counts(self):
        tasks, models = ((5, 5), (3, 3), (2, 2)), ((0, 1, 2),)
        self.assertEqual(self.assert_best_beat(free_line(tasks, (), models), (0, 0)), 5)
        self.assertEqual(self.assert_best_beat(free_line(tasks, ((1, 0), (0, 2)), models), (0, 0)), 7)
        self.assertEqual(self.assert_best_beat(free_line(tasks, ((0, 1), (0, 2)), models), (0, 0)), 5)
        self.assertEqual(self.assert_best_beat(free_line(tasks, ((1, 0), (0, 2)), models), (0, 0, 0)), 5)
        line = free_line(tasks, ((1, 0), (0, 2)), models)
        self.assertEqual(self.assert_best_plan(line, (0, 0, 0), 5), (1, 0, 2))
        self.assertIsNone(self.assert_best_plan(line, (0, 0), 6))

    def test_the_windows_are_told_by_station(self):
        # Only where the window is 5 the model that comes once may take 9 with a beat of 4.
        line = Line(((9, 9), (4, 4)), (), ((0, 1), (1,)), (((0, 1),), ((1, 1),)), 0)
        self.assertEqual(self.assert_best_plan(line, (0, 5), 4), (1, 0))
        self.assertEqual(self.assert_best_plan(line, (5, 0), 4), (0, 1))
        self.assertIsNone(self.assert_best_plan(line, (4, 4), 4))
        self.assertIsNone(self.assert_best_plan(line, (5,), 4))
        self.assertEqual(self.assert_fewest(line, (5, 0, 0), 4), 2)
        self.assertEqual(self.assert_fewest(line, (0, 0, 5), 4), 3)
        self.assertEqual(self.assert_fewest(line, (0, 0, 4), 4), None)

    def test_a_beat_of_0(self):
        line = free_line(((0, 0), (0, 5)), (), ((0, 1), ()), slips=1)
        self.assertEqual(best_beat(line, (5,)), (0, (0, 0), None))
        self.assertEqual(self.assert_best_beat(line, (4, 0)), 1)
        self.assertEqual(self.assert_best_beat(line, (0, 5)), 0)
        self.assertEqual(best_plan(line, (5,), 0), ("plan", (0, 0), (((5, 0),),)))
        self.assertIsNone(self.assert_best_plan(line, (4, 0), 0))
        self.assertEqual(fewest_stations(line, (5,), 0), (1, (0, 0), None))

    def test_one_task(self):
        line = free_line(((3, 5),), (), ((0,),), slips=None)
        for stations in (1, 2, 24):
            self.assertEqual(self.assert_best_beat(line, (7,) * stations), 5)
            self.assertEqual(self.assert_fewest(line, (7,) * stations, 4), None)
            self.assertEqual(self.assert_fewest(line, (7,) * stations, 5), 1)

    def test_slips_change_the_plan(self):
        tasks, models = ((4, 4), (3, 9), (3, 3), (2, 2)), ((0, 1, 2, 3),)
        self.assertEqual(self.assert_best_beat(free_line(tasks, (), models, slips=0), (0, 0)), 6)
        self.assertEqual(self.assert_best_beat(free_line(tasks, (), models, slips=1), (0, 0)), 9)
        self.assertEqual(self.assert_best_beat(free_line(tasks, (), models, slips=1), (3, 3)), 8)
        self.assertEqual(self.assert_best_beat(free_line(tasks, (), models, slips=None), (300000,) * 2), 9)

    def test_a_plan_for_fewer_stations_is_one_for_more(self):
        line = free_line(((5, 5), (5, 5)), (), ((0, 1),))
        for more in range(1, 7):
            self.assertEqual(self.assert_fewest(line, (0,) * more, 10), 1)
            self.assertIsNotNone(self.assert_best_plan(line, (0,) * more, 10))
            self.assertEqual(self.assert_best_beat(line, (0,) * more), 10 if more == 1 else 5)

    def test_no_number_of_stations_is_enough(self):
        line = free_line(((5, 5), (6, 6), (1, 1)), ((0, 1),), ((0, 1, 2),))
        for stations in range(1, 9):
            self.assertIsNone(self.assert_fewest(line, (300000,) * stations, 5))
            self.assertIsNone(self.assert_best_plan(line, (300000,) * stations, 5))
        self.assertEqual(self.assert_fewest(line, (300000,) * 8, 6), 2)


class SomeLines(Choices):
    """Small lines against a trial of all plans."""

    def test_all_three(self):
        chosen = some(37)
        found = {"plan": 0, "refutation": 0, "order": 0, "none": 0}
        for _ in range(220):
            line = random_line(chosen, tasks=5, states=3)
            stations = chosen.randint(1, 3 if len(line.tasks) < 5 else 2)
            windows = [chosen.choice((0, 1, 3, 10, 40)) for _ in range(stations)]
            plans = all_plans(line, len(windows))
            least = min(least_by_trial(line, plan, windows) for plan in plans)
            self.assertEqual(self.assert_best_beat(line, windows), least)
            found["order"] += '"order"' in repr(best_beat(line, windows)).replace("'", '"')
            beat = max(0, least + chosen.randint(-2, 2))
            plan = self.assert_best_plan(line, windows, beat)
            self.assertEqual(plan is None, beat < least)
            found["refutation" if plan is None else "plan"] += 1
            many = self.assert_fewest(line, windows, beat)
            expected = [number + 1 for number in range(len(windows))
                        if any(is_kept(line, plan, windows[:number + 1], beat) for plan in all_plans(line, number + 1))]
            self.assertEqual(many, min(expected, default=None))
            found["none"] += many is None
        self.assertGreater(min(found.values()), 40)

    def test_great_windows_so_that_loops_refute(self):
        chosen = some(38)
        loops = 0
        for _ in range(80):
            line = random_line(chosen, tasks=5, states=5, high=30)
            windows = (300000,) * chosen.randint(1, 3)
            beat = self.assert_best_beat(line, windows)
            self.assertIsNotNone(self.assert_best_plan(line, windows, beat))
            if beat:
                self.assertIsNone(self.assert_best_plan(line, windows, beat - 1))
                loops += "loop" in repr(best_beat(line, windows)[2])
            self.assert_fewest(line, windows, beat)
        self.assertGreater(loops, 40)

    def test_more_slack_finds_no_less(self):
        chosen = some(39)
        for _ in range(120):
            line = random_line(chosen, tasks=4)
            windows = [chosen.choice((0, 3, 10)) for _ in range(2)]
            beat = best_beat(line, windows)[0]
            self.assertLessEqual(best_beat(line, windows + [0])[0], beat)
            self.assertLessEqual(best_beat(line, [window + 1 for window in windows])[0], beat)
            self.assertLessEqual(best_beat(with_slips(line, line.slips and line.slips - 1), windows)[0], beat)
            other = Line(line.tasks, line.order[:-1], line.models, line.states, line.start, slips=line.slips)
            self.assertLessEqual(best_beat(other, windows)[0], beat)


class TooManyPlans(Choices):
    """Point 34: plans, arcs, and slips and 1, up to 2 ** 18 together."""

    def line(self, tasks, arcs, slips):
        """A line of so many tasks and arcs; to most of its states no row comes."""
        models = [()] + [(task % tasks,) for task in range(7)]
        states = [[] for _ in range(min(arcs, 60))]
        for arc in range(arcs):
            number, state = divmod(arc, len(states))
            states[state].append((number % 8, number // 8))
        return Line(((0, 0),) * tasks, (), models, states, 0, slips=slips)

    def assert_told(self, line, stations, is_too_many):
        arcs = sum(len(state) for state in line.states)
        size = stations ** len(line.tasks) * arcs * (1 if line.slips is None else line.slips + 1)
        self.assertEqual(size > 2 ** 18, is_too_many)
        windows = (0,) * stations
        for function, more in ((best_plan, (0,)), (best_beat, ()), (fewest_stations, (0,))):
            with self.subTest(function=function.__name__, tasks=len(line.tasks), stations=stations):
                if is_too_many:
                    self.assert_too_many(function, line, windows, *more)
                else:
                    function(line, windows, *more)

    def test_exactly_2_to_the_18(self):
        for tasks, stations, slips in ((18, 2, 0), (18, 2, None), (17, 2, 1), (16, 2, 3), (15, 2, 7), (9, 4, 0),
                                       (9, 4, None), (8, 4, 3), (6, 8, 0), (5, 8, 7), (4, 16, 3)):
            line = free_line(((0, 0),) * tasks, (), ((),), slips=slips)
            self.assertEqual(stations ** tasks * ((slips or 0) + 1), 2 ** 18)
            self.assert_told(line, stations, False)
            self.assert_told(Line(line.tasks, (), ((), ()), (((0, 0), (1, 0)),), 0, slips=slips), stations, True)
            self.assert_told(Line(line.tasks, (), ((),), (((0, 0),), ((0, 0),)), 0, slips=slips), stations, True)
            self.assert_told(free_line(((0, 0),) * (tasks + 1), (), ((),), slips=slips), stations, True)
            if slips is not None:
                self.assert_told(with_slips(line, slips + 1), stations, True)

    def test_arcs_of_all_states_count_also_of_those_to_which_no_row_comes(self):
        for tasks, stations, slips, arcs in ((7, 4, 0, 16), (5, 8, 0, 8), (8, 2, 1, 512), (8, 2, None, 1024),
                                             (7, 2, 0, 2048), (4, 4, 3, 256), (2, 16, 7, 128), (1, 16, 7, 2048)):
            self.assert_told(self.line(tasks, arcs, slips), stations, False)
            self.assert_told(self.line(tasks, arcs + 1, slips), stations, True)

    def test_one_station_is_never_too_much(self):
        states = [[(model, (at + to) % 60) for model in range(8) for to in range(5)] for at in range(60)]
        models = [tuple(range(model, 24)) for model in range(8)]
        line = Line(((1, 2),) * 24, (), models, states, 0, slips=8)
        self.assert_told(line, 1, False)
        self.assert_told(line, 2, True)

    def test_24_stations(self):
        self.assert_told(free_line(((1, 1),) * 3, (), ((0, 1, 2),), slips=8), 24, False)
        self.assert_told(free_line(((1, 1),) * 4, (), ((0, 1, 2),), slips=0), 24, True)
        self.assert_told(free_line(((1, 1),) * 4, (), ((0, 1, 2),), slips=0), 22, False)
        self.assert_told(free_line(((1, 1),) * 4, (), ((0, 1, 2),), slips=0), 23, True)
        self.assert_told(free_line(((1, 1),) * 24, (), ((0, 1, 2),), slips=0), 24, True)

    def test_fewest_stations_counts_all_windows(self):
        line = free_line(((1, 1),) * 18, (), ((0,),))
        self.assertEqual(fewest_stations(line, (0, 0), 300000)[0], 1)
        self.assert_too_many(fewest_stations, line, (0, 0, 0), 300000)

    def test_too_many_stands_behind_every_bad_value(self):
        line = free_line(((1, 1),) * 24, (), ((0,),))
        windows = (0, 0)
        self.assert_too_many(best_plan, line, windows, 300000)
        self.assert_too_many(best_beat, line, windows)
        self.assert_too_many(fewest_stations, line, windows, 0)
        for wrong in WRONG_WINDOWS:
            self.assert_bad(2, best_plan, line, wrong, -1)
            self.assert_bad(2, best_beat, line, wrong)
            self.assert_bad(2, fewest_stations, line, wrong, None)
        for wrong in WRONG_BEATS:
            self.assert_bad(3, best_plan, line, windows, wrong)
            self.assert_bad(3, fewest_stations, line, windows, wrong)


class Errors(Trial):
    def test_errors(self):
        wrong = {2: WRONG_WINDOWS, 3: WRONG_BEATS}
        self.assert_errors(best_plan, {1: SMALL, 2: (4, 4), 3: 6}, wrong)
        self.assert_errors(fewest_stations, {1: SMALL, 2: (4, 4), 3: 6}, wrong)
        self.assert_errors(best_beat, {1: SMALL, 2: (4, 4)}, wrong)

    def test_the_greatest_windows_and_beat(self):
        line = free_line(((10000, 10000),), (), ((0,),))
        self.assertEqual(best_plan(line, (300000,) * 24, 300000)[0], "plan")
        self.assertEqual(best_plan(line, (0,) * 24, 300000)[0], "plan")
        self.assertEqual(fewest_stations(line, (300000,) * 24, 300000)[0], 1)
        self.assertEqual(best_beat(line, (300000,) * 24)[0], 10000)
        line = free_line(((10000, 10000),) * 24, (), (tuple(range(24)),), slips=8)
        for window in (0, 300000):
            self.assertEqual(best_beat(line, (window,))[:2], (240000, (0,) * 24))
            self.assertEqual(best_plan(line, (window,), 240000)[0], "plan")
            self.assertEqual(best_plan(line, (window,), 239999)[0], "refutation")

    def test_arguments_by_name(self):
        self.assertEqual(best_plan(beat=5, windows=[0, 0, 0], line=SMALL)[0], "plan")
        self.assertEqual(best_beat(windows=[0, 0, 0], line=SMALL)[0], 5)
        self.assertEqual(fewest_stations(beat=5, windows=[0, 0, 0], line=SMALL)[0], 3)

    def test_arguments_are_not_changed_and_later_changes_have_no_effect(self):
        windows = [0, 0, 0]
        values = best_plan(SMALL, windows, 5), best_beat(SMALL, windows), fewest_stations(SMALL, windows, 5)
        self.assertEqual(windows, [0, 0, 0])
        windows[0] = 300000
        self.assertEqual(values, (best_plan(SMALL, (0,) * 3, 5), best_beat(SMALL, (0,) * 3),
                                  fewest_stations(SMALL, (0,) * 3, 5)))

    def test_the_functions_stand_in_their_file(self):
        for name in ("best_plan", "best_beat", "fewest_stations"):
            self.assertEqual(getattr(choices, name).__module__, "anyrowline.choices")


if __name__ == "__main__":
    unittest.main()
