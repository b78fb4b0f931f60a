"""Point 39, with points 34 and 36, and guarantee 7: fewest_moves."""

import unittest

from anyrowline import moves
from anyrowline.choices import best_beat, best_plan
from anyrowline.lines import Line, free_line, with_slips
from anyrowline.moves import fewest_moves
from anyrowline.plans import is_plan
from anyrowline.refuting import refutation_holds
from anyrowline.safety import keeps
from trials import (HUGE, NO_INTEGERS, ODD_VALUES, SMALL, Trial, all_plans, does_refute, is_kept, moves_by_trial,
                    random_line, some)

WRONG_WINDOWS = [(), [], (0,) * 25, (0, -1), (0, 300001), (0, None), (0, True), (0, "0"), ((0, 0),), (HUGE,),
                 *[value for value in ODD_VALUES if value not in ((0,), [0])]]
WRONG_BEATS = [300001, -1, HUGE, -HUGE, SMALL, *NO_INTEGERS]
WRONG_OLDS = [(0, 0), (0, 0, 0, 0), (0, 0, 24), (0, -2, 0), (0, None, 0), (True, 0, 0), ("0", 0, 0), (0, 0, HUGE),
              *ODD_VALUES]


class Moves(Trial):
    def assert_fewest(self, line, windows, beat, old):
        """What fewest_moves returns is as told, but for there being nothing less; returns the number."""
        value = fewest_moves(line, windows, beat, old)
        self.assert_plain(value)
        given = list(windows), list(old)
        self.assertEqual(value, fewest_moves(line, given[0], beat, given[1]))
        self.assertEqual(given, (list(windows), list(old)))
        many, plan, tree = value
        if many is None:
            self.assertIsNone(plan)
            self.assertIs(does_refute(line, windows, beat, tree), True)
            self.assertIs(refutation_holds(line, windows, beat, tree), True)
            self.assertEqual(best_plan(line, windows, beat)[0], "refutation")
            return None
        self.assertIs(is_plan(line, len(windows), plan), True)
        self.assertIs(keeps(line, plan, windows, beat), True)
        self.assertEqual(sum(now != then for now, then in zip(plan, old)), many)
        if many == 0:
            self.assertIsNone(tree)
            self.assertEqual(plan, tuple(old))
        else:
            self.assertIs(does_refute(line, windows, beat, tree, old, many - 1), True)
            self.assertIs(refutation_holds(line, windows, beat, tree, old=old, most=many - 1), True)
            self.assertIs(refutation_holds(line, windows, beat, tree, old=old, most=many), False)
            self.assertIs(refutation_holds(line, windows, beat, tree), False)
        return many


class OneLine(Moves):
    LINE = free_line(((5, 5), (3, 3), (2, 2)), ((0, 2),), ((0, 1, 2),))

    def test_an_old_plan_that_keeps_the_beat(self):
        self.assertEqual(fewest_moves(self.LINE, (0, 0), 5, (0, 1, 1)), (0, (0, 1, 1), None))
        self.assertEqual(self.assert_fewest(self.LINE, (0, 0), 5, (0, 1, 1)), 0)
        self.assertEqual(self.assert_fewest(self.LINE, (0, 0), 300000, (0, 0, 0)), 0)

    def test_one_task_moves(self):
        self.assertEqual(self.assert_fewest(self.LINE, (0, 0), 5, (0, 0, 1)), 1)
        self.assertEqual(self.assert_fewest(self.LINE, (0, 0), 8, (0, 0, 0)), 1)
        self.assertEqual(self.assert_fewest(self.LINE, (0, 0), 9, (0, 0, 0)), 1)
        self.assertEqual(self.assert_fewest(self.LINE, (0, 0), 10, (0, 0, 0)), 0)

    def test_old_plans_that_do_not_fit_the_order(self):
        # Tasks 1 and 2 would change with task 0, if the order let them.
        self.assertEqual(self.assert_fewest(self.LINE, (0, 0), 5, (1, 0, 0)), 3)
        self.assertEqual(self.assert_fewest(self.LINE, (0, 0), 10, (1, 0, 0)), 1)
        self.assertEqual(self.assert_fewest(free_line(self.LINE.tasks, (), self.LINE.models), (0, 0), 5, (1, 0, 0)), 0)

    def test_tasks_that_had_no_station_move_in_every_plan(self):
        self.assertEqual(self.assert_fewest(self.LINE, (0, 0), 5, (-1, 1, 1)), 1)
        self.assertEqual(self.assert_fewest(self.LINE, (0, 0), 5, (0, -1, -1)), 2)
        self.assertEqual(self.assert_fewest(self.LINE, (0, 0), 5, (-1, -1, -1)), 3)
        self.assertEqual(self.assert_fewest(self.LINE, (0, 0), 300000, (-1, 0, 0)), 1)

    def test_stations_beyond_the_windows(self):
        self.assertEqual(self.assert_fewest(self.LINE, (0, 0), 5, (0, 2, 1)), 1)
        self.assertEqual(self.assert_fewest(self.LINE, (0, 0), 5, (23, 23, 23)), 3)
        self.assertEqual(self.assert_fewest(self.LINE, (0,), 10, (0, 1, 0)), 1)
        self.assertEqual(self.assert_fewest(self.LINE, (0, 0, 0), 5, (0, 2, 2)), 0)

    def test_no_plan_at_all(self):
        for old in ((0, 0, 0), (-1, -1, -1), (0, 1, 1), (23, -1, 5)):
            self.assertIsNone(self.assert_fewest(self.LINE, (0, 0), 4, old))
            self.assertEqual(fewest_moves(self.LINE, (0, 0), 4, old)[:2], (None, None))
            self.assertIsNone(self.assert_fewest(self.LINE, (300000,) * 3, 4, old))

    def test_windows_are_told_by_station(self):
        # A model that takes 9 comes once.
        line = Line(((9, 9), (4, 4)), (), ((0, 1), (1,)), (((0, 1),), ((1, 1),)), 0)
        self.assertEqual(self.assert_fewest(line, (0, 5), 4, (1, 0)), 0)
        self.assertEqual(self.assert_fewest(line, (5, 0), 4, (1, 0)), 2)
        self.assertEqual(self.assert_fewest(line, (5, 0), 4, (0, 0)), 1)
        self.assertIsNone(self.assert_fewest(line, (4, 4), 4, (0, 0)))

    def test_slips_count(self):
        line = free_line(((3, 3), (3, 9)), (), ((0, 1),), slips=0)
        for slips, many in ((0, 0), (1, 1), (None, 1)):
            self.assertEqual(self.assert_fewest(with_slips(line, slips), (0, 0), 9, (0, 0)), many)
        self.assertEqual(self.assert_fewest(with_slips(line, 1), (3, 0), 9, (0, 0)), 0)
        self.assertEqual(self.assert_fewest(with_slips(line, 1), (2, 0), 9, (0, 0)), 1)

    def test_24_tasks_and_24_stations(self):
        line = free_line(((1, 1),) * 24, (), (tuple(range(24)),), slips=8)
        self.assertEqual(self.assert_fewest(line, (0,), 24, (0,) * 24), 0)
        self.assertEqual(self.assert_fewest(line, (0,), 24, (23,) * 24), 24)
        self.assertEqual(self.assert_fewest(line, (0,), 24, (0,) * 12 + (-1,) * 12), 12)
        self.assertIsNone(self.assert_fewest(line, (0,), 23, (0,) * 24))
        line = free_line(((7, 7), (5, 5), (1, 1)), ((1, 0),), ((0, 1, 2),))
        self.assertEqual(self.assert_fewest(line, (0,) * 24, 7, (23, 0, 0)), 0)
        self.assertEqual(self.assert_fewest(line, (0,) * 24, 7, (3, 4, 3)), 1)
        line = free_line(((7, 7), (5, 5), (1, 1)), ((1, 0), (0, 2)), ((0, 1, 2),))
        self.assertEqual(self.assert_fewest(line, (0,) * 24, 7, (3, 5, 3)), 2)
        self.assertEqual(self.assert_fewest(line, (0,) * 24, 8, (3, 5, 3)), 1)
        self.assertEqual(self.assert_fewest(line, (0,) * 24, 6, (3, 5, 3)), None)


class SomeLines(Moves):
    def test_against_a_trial_of_all_plans(self):
        chosen = some(74)
        found = {}
        for _ in range(300):
            line = random_line(chosen, tasks=5, states=3)
            stations = chosen.randint(1, 3 if len(line.tasks) < 5 else 2)
            windows = tuple(chosen.choice((0, 1, 3, 10, 40, 300000)) for _ in range(stations))
            beat = max(0, best_beat(line, windows)[0] + chosen.choice((-1, 0, 0, 1, 2, 5)))
            old = tuple(chosen.randint(-1, stations) for _ in line.tasks)
            if chosen.random() < 0.5:
                old = chosen.choice(all_plans(line, stations))
            many = self.assert_fewest(line, windows, beat, old)
            self.assertEqual(many, moves_by_trial(line, windows, beat, old) if max(windows) < 300000 else many)
            found[many] = found.get(many, 0) + 1
        self.assertGreater(min(found[many] for many in (None, 0, 1, 2, 3)), 15)

    def test_great_windows(self):
        chosen = some(75)
        for _ in range(60):
            line = random_line(chosen, tasks=4, high=30)
            windows = (300000,) * chosen.randint(1, 3)
            least, plan, _ = best_beat(line, windows)
            for beat in (least, least + 3):
                many = self.assert_fewest(line, windows, beat, (0,) * len(line.tasks))
                fitting = [plan for plan in all_plans(line, len(windows)) if keeps(line, plan, windows, beat)]
                self.assertEqual(many, min(sum(station != 0 for station in plan) for plan in fitting))
            self.assertEqual(self.assert_fewest(line, windows, least, plan), 0)
            if least:
                self.assertIsNone(self.assert_fewest(line, windows, least - 1, plan))

    def test_more_slack_moves_no_more(self):
        chosen = some(76)
        for _ in range(80):
            line = random_line(chosen, tasks=4)
            windows = tuple(chosen.choice((0, 3, 10)) for _ in range(2))
            beat, plan, _ = best_beat(line, windows)
            old = tuple(chosen.randint(-1, 2) for _ in line.tasks)
            many = fewest_moves(line, windows, beat, old)[0]
            self.assertTrue(is_kept(line, plan, windows, beat))
            self.assertLessEqual(fewest_moves(line, windows, beat + 1, old)[0], many)
            self.assertLessEqual(fewest_moves(line, windows + (0,), beat, old)[0], many)
            self.assertLessEqual(many, len(line.tasks))


class TooManyPlans(Moves):
    def line(self, tasks, slips, arcs=1):
        models = [()] * min(arcs, 8)
        return free_line(((1, 1),) * tasks, (), models, slips=slips)

    def test_exactly_2_to_the_18(self):
        for tasks, stations, slips, arcs in ((18, 2, 0, 1), (18, 2, None, 1), (17, 2, 1, 1), (9, 4, 0, 1),
                                             (8, 4, 3, 1), (6, 8, None, 1), (15, 2, 7, 1), (16, 2, 0, 4),
                                             (12, 2, 7, 8), (3, 16, 7, 8)):
            line = self.line(tasks, slips, arcs)
            self.assertEqual(stations ** tasks * arcs * ((slips or 0) + 1), 2 ** 18)
            old = (0,) * tasks
            self.assertEqual(fewest_moves(line, (0,) * stations, 0, old)[0], 0)
            self.assert_too_many(fewest_moves, self.line(tasks + 1, slips, arcs), (0,) * stations, 0, old + (0,))
            self.assert_too_many(fewest_moves, line, (0,) * (stations + 1), 0, old)
            if slips is not None:
                self.assert_too_many(fewest_moves, with_slips(line, slips + 1), (0,) * stations, 0, old)

    def test_arcs_of_all_states_count(self):
        states = (((0, 0),), ((0, 0),))
        line = Line(((1, 1),) * 17, (), ((),), states, 0)
        self.assertEqual(fewest_moves(line, (0, 0), 0, (1,) * 17)[0], 0)
        self.assert_too_many(fewest_moves, Line(((1, 1),) * 17, (), ((),), states + states[:1], 0), (0, 0), 0, (1,) * 17)

    def test_one_station_is_never_too_much(self):
        line = free_line(((1, 1),) * 24, (), (tuple(range(24)),) * 8, slips=8)
        self.assertEqual(fewest_moves(line, (0,), 24, (0,) * 24)[0], 0)

    def test_behind_every_bad_value(self):
        line = free_line(((1, 1),) * 24, (), ((0,),))
        old = (0,) * 24
        self.assert_too_many(fewest_moves, line, (0, 0), 300000, old)
        for windows in WRONG_WINDOWS:
            self.assert_bad(2, fewest_moves, line, windows, 5, old)
        for beat in WRONG_BEATS:
            self.assert_bad(3, fewest_moves, line, (0, 0), beat, old)
        for wrong in (old + (0,), old[1:], (24,) + old[1:], (-2,) + old[1:], None, (None,) * 24, (True,) * 24):
            self.assert_bad(4, fewest_moves, line, (0, 0), 5, wrong)


class Errors(Trial):
    def test_errors(self):
        self.assert_errors(fewest_moves, {1: SMALL, 2: (4, 4), 3: 6, 4: (0, 0, 0)},
                           {2: WRONG_WINDOWS, 3: WRONG_BEATS, 4: WRONG_OLDS})

    def test_bounds(self):
        for old in ((-1, 23, 0), [23, 23, 23], [-1, -1, -1]):
            self.assertEqual(fewest_moves(SMALL, (300000,), 300000, old)[1], (0, 0, 0))
        self.assertEqual(fewest_moves(SMALL, (300000,) * 24, 300000, (0, 0, 0)), (0, (0, 0, 0), None))

    def test_arguments_by_name(self):
        self.assertEqual(fewest_moves(old=[0, 0, 0], beat=300000, windows=[0], line=SMALL), (0, (0, 0, 0), None))

    def test_what_is_given_stays_and_later_changes_have_no_effect(self):
        windows, old = [0, 0], [0, 0, 1]
        value = fewest_moves(SMALL, windows, 7, old)
        self.assertEqual((windows, old), ([0, 0], [0, 0, 1]))
        windows[0], old[0] = 5, 1
        self.assertEqual(value, fewest_moves(SMALL, (0, 0), 7, (0, 0, 1)))

    def test_it_stands_in_its_file(self):
        self.assertEqual(moves.fewest_moves.__module__, "anyrowline.moves")


if __name__ == "__main__":
    unittest.main()
