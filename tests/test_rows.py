"""Points 14, 24 and 25: is_row and lateness."""

import itertools
import unittest

from anyrowline import rows
from anyrowline.lines import Line, free_line, with_slips
from anyrowline.rows import is_row, lateness
from trials import (HUGE, NO_INTEGERS, ODD_VALUES, SMALL, Trial, is_allowed, listed, random_line, random_row, some,
                    times_of)

TASKS = ((4, 6), (2, 9), (3, 3), (0, 7), (5, 7))
MODELS = ((0, 1, 2, 3, 4), (1, 4), (), (0, 2, 4))
STATES = (((0, 1), (1, 2), (2, 0)), ((3, 0),), ((1, 1), (2, 2)))
LINE = Line(TASKS, (), MODELS, STATES, 0, slips=3)
PLAN = (0, 0, 2, 2, 0)


class IsRow(Trial):
    def assert_row(self, line, *row):
        self.assertIs(is_row(line, row), True)
        self.assertIs(is_row(line, listed(row)), True)
        self.assertIs(is_row(line, [tuple(piece) for piece in row]), True)

    def assert_no_row(self, line, *row):
        self.assertIs(is_row(line, row), False)
        self.assertIs(is_row(line, listed(row)), False)

    def test_one_piece(self):
        for arc, needed in enumerate(((0, 1, 2, 3, 4), (1, 4), ())):
            for many in range(4):
                for slipped in itertools.combinations(range(5), many):
                    with self.subTest(arc=arc, slipped=slipped):
                        is_fine = all(task in needed for task in slipped)
                        self.assertIs(is_row(LINE, ((arc, slipped),)), is_fine)
                        self.assertIs(is_row(LINE, [[arc, list(slipped)]]), is_fine)

    def test_each_piece_comes_in_the_state_behind_the_one_ahead(self):
        self.assert_row(LINE, (0, ()), (0, ()), (2, ()), (1, ()), (1, ()), (0, ()), (0, ()))
        self.assert_no_row(LINE, (0, ()), (1, ()))
        self.assert_no_row(LINE, (1, ()), (2, ()))
        self.assert_no_row(LINE, (1, ()), (0, ()), (1, ()))
        self.assert_row(LINE, (1, ()), (1, ()), (0, ()))

    def test_the_row_begins_in_the_start(self):
        for start, arcs in enumerate((3, 1, 2)):
            line = Line(TASKS, (), MODELS, STATES, start)
            for arc in range(-2, 5):
                self.assertIs(is_row(line, ((arc, ()),)), 0 <= arc < arcs)

    def test_slips_at_the_number_and_one_beyond(self):
        three = ((0, (0,)), (0, (2, 4)), (0, ()))
        self.assert_row(LINE, *three)
        self.assert_no_row(LINE, *three[:2], (0, (1,)))
        self.assert_row(LINE, (0, (0, 1, 4)))
        self.assert_no_row(LINE, (0, (0, 1, 3, 4)))
        for slips in range(9):
            line = with_slips(LINE, slips)
            for many in range(11):
                row = [(2, ())] + [(0, (1,)), (0, ())] * many + [(2, ())]
                self.assertIs(is_row(line, row), many <= slips)
                row = [(0, (0, 1, 2, 3, 4)[:many]), (0, ())] + [(0, (3,)), (0, ())] * (many - 5)
                self.assertIs(is_row(line, row), many <= slips)

    def test_slips_none(self):
        line = with_slips(LINE, None)
        self.assert_row(line, *[(0, (0, 1, 2, 3, 4)), (0, (0, 2, 4))] * 50)
        self.assert_no_row(line, *[(0, (0, 1, 2, 3, 4)), (0, (0, 1, 2, 4))])

    def test_slips_that_are_told_without_extra_time_count(self):
        line = with_slips(LINE, 1)
        self.assert_row(line, (0, (2,)))
        self.assert_no_row(line, (0, (2,)), (0, (2,)))

    def test_a_slipped_task_that_the_model_does_not_need(self):
        for task in (0, 2, 3):
            self.assert_no_row(LINE, (1, (task,)))
        self.assert_no_row(LINE, (2, (1,)))
        self.assert_no_row(LINE, (0, ()), (0, (1,)))
        for task in (-1, 5, 6, HUGE, -HUGE, -5):
            self.assert_no_row(LINE, (0, (task,)))

    def test_slipped_tasks_that_do_not_ascend(self):
        for slipped in ((1, 0), (0, 0), (4, 4), (0, 2, 1), (1, 1, 2), (0, 2, 2)):
            self.assert_no_row(LINE, (0, slipped))
            self.assert_no_row(with_slips(LINE, None), (0, slipped))

    def test_arcs_that_are_not_there(self):
        for arc in (-1, -2, -3, 3, 4, HUGE, -HUGE):
            self.assert_no_row(LINE, (arc, ()))
        for arc in (-1, 1, 2):
            self.assert_no_row(LINE, (0, ()), (arc, ()))

    def test_values_that_are_no_row(self):
        for value in ODD_VALUES:
            for line in (LINE, with_slips(LINE, None), SMALL):
                with self.subTest(value=value):
                    self.assertIs(is_row(line, value), is_allowed(line, value))
        for value in NO_INTEGERS:
            if not isinstance(value, (list, tuple)):
                self.assert_no_row(LINE, (0, ()), (0, value))
            self.assert_no_row(LINE, (value, ()))
            self.assert_no_row(LINE, (0, (value,)))
            self.assert_no_row(LINE, (0, ()), value)

    def test_long_rows(self):
        row = [(0, ()), (0, ())] * 10000
        self.assertIs(is_row(LINE, row), True)
        self.assertIs(is_row(LINE, row + [(3, ())]), False)
        self.assertIs(is_row(LINE, row + [(0, (0, 1, 2))]), True)
        self.assertIs(is_row(LINE, row + [(0, (0, 1, 2, 3))]), False)

    def test_some_rows_and_rows_that_are_changed_in_one_place(self):
        chosen = some(24)
        for _ in range(1500):
            line = random_line(chosen)
            row = listed(random_row(chosen, line, chosen.randint(1, 8)))
            self.assertIs(is_row(line, row), is_allowed(line, row))
            piece = chosen.choice(row)
            if chosen.random() < 0.5:
                piece[0] += chosen.choice((-1, 1))
            else:
                piece[1].insert(chosen.randint(0, len(piece[1])), chosen.randint(-1, len(line.tasks)))
            self.assertIs(is_row(line, row), is_allowed(line, row))

    def test_the_value_is_not_changed(self):
        value = [[0, [0, 1]], [0, []]]
        is_row(LINE, value)
        self.assertEqual(value, [[0, [0, 1]], [0, []]])

    def test_arguments_by_name(self):
        self.assertIs(is_row(value=((0, ()),), line=LINE), True)


class Lateness(Trial):
    ROW = ((0, (1,)), (0, ()), (1, (4,)), (0, ()), (0, (4,)))

    def assert_late(self, line, plan, station, beat, row, *late):
        for told in (row, listed(row)):
            value = lateness(line, plan, station, beat, told)
            self.assert_plain(value)
            self.assertEqual(value, late)

    def test_the_overview(self):
        self.assert_late(SMALL, (0, 0, 1), 0, 6, ((0, (1,)),), 3)
        self.assert_late(SMALL, (0, 0, 1), 0, 6, ((0, ()), (0, ()), (0, (1,)), (0, ())), 0, 0, 3, 1)
        self.assert_late(SMALL, (0, 0, 1), 0, 5, ((0, (1,)), (0, ())) * 1, 4, 3)
        self.assert_late(SMALL, (0, 0, 1), 1, 2, ((0, ()), (0, ()), (0, (1,)), (0, ())), 1, 2, 3, 4)

    def test_each_beat_near_the_loads(self):
        # The pieces take 4 + 9 + 5, 4 + 5, 2 + 7, 2 + 5 and 4 + 7 at station 0.
        for beat, late in ((0, (18, 27, 36, 43, 54)), (7, (11, 13, 15, 15, 19)), (8, (10, 11, 12, 11, 14)),
                           (9, (9, 9, 9, 7, 9)), (10, (8, 7, 6, 3, 4)), (11, (7, 5, 3, 0, 0)), (17, (1, 0, 0, 0, 0)),
                           (18, (0,) * 5), (19, (0,) * 5), (300000, (0,) * 5)):
            with self.subTest(beat=beat):
                self.assert_late(LINE, PLAN, 0, beat, self.ROW, *late)

    def test_other_stations(self):
        self.assert_late(LINE, PLAN, 1, 0, self.ROW, 0, 0, 0, 0, 0)
        self.assert_late(LINE, PLAN, 23, 0, self.ROW, 0, 0, 0, 0, 0)
        self.assert_late(LINE, PLAN, 2, 0, self.ROW, 3, 6, 6, 6, 9)
        self.assert_late(LINE, PLAN, 2, 2, self.ROW, 1, 2, 0, 0, 1)
        self.assert_late(LINE, (23, 23, 0, 0, 23), 23, 9, self.ROW, 9, 9, 9, 7, 9)

    def test_tasks_that_slip_elsewhere(self):
        self.assert_late(LINE, PLAN, 2, 3, ((0, (0, 1, 4)), (0, ())), 0, 0)
        self.assert_late(LINE, PLAN, 2, 3, ((0, (0, 3)), (0, (2,))), 7, 7)
        self.assert_late(LINE, PLAN, 0, 11, ((0, (2, 3)), (0, (2,))), 0, 0)

    def test_lateness_is_never_below_0_and_forgets(self):
        line = free_line(((10, 10), (1, 1)), (), ((0,), (1,)))
        self.assert_late(line, (0, 0), 0, 5, ((0, ()), (1, ()), (1, ()), (1, ()), (0, ())), 5, 1, 0, 0, 5)

    def test_the_greatest_times(self):
        line = free_line(((0, 10000),) * 24, (), (tuple(range(24)),), slips=None)
        row = ((0, tuple(range(24))),) * 1100
        value = lateness(line, (5,) * 24, 5, 0, row)
        self.assertEqual(value, tuple(240000 * many for many in range(1, 1101)))
        self.assertEqual(lateness(line, (5,) * 24, 5, 240000, row), (0,) * 1100)
        self.assertEqual(lateness(line, (5,) * 24, 5, 239999, row), tuple(range(1, 1101)))
        self.assertEqual(lateness(line, (5,) * 24, 5, 300000, row), (0,) * 1100)

    def test_a_row_of_20000_pieces(self):
        value = lateness(SMALL, (0, 0, 1), 0, 4, ((0, ()),) * 20000)
        self.assertEqual(value, tuple(2 * (many // 2 + 1) for many in range(20000)))

    def test_some_rows(self):
        chosen = some(25)
        for _ in range(800):
            line = random_line(chosen, slips=(None,))
            plan = [chosen.randint(0, 2) for _ in line.tasks]
            if all(plan[before] <= plan[after] for before, after in line.order):
                row = random_row(chosen, line, chosen.randint(1, 12))
                beat = chosen.randint(0, 20)
                late, found = 0, []
                for time in times_of(line, plan, 1, row):
                    late = max(0, late + time - beat)
                    found.append(late)
                self.assert_late(line, plan, 1, beat, row, *found)

    def test_errors(self):
        fine = {1: LINE, 2: PLAN, 3: 0, 4: 9, 5: self.ROW}
        plans = [(0, 0, 0, 0)] + [value for value in ODD_VALUES] + [(0, 0, 0, 0, 24), (0, 0, 0, 0, -1), (0,) * 6]
        wrong = {2: plans, 3: [24, -1, HUGE, -HUGE, LINE, *NO_INTEGERS],
                 4: [300001, -1, -300000, HUGE, -HUGE, LINE, *NO_INTEGERS],
                 5: [((0, (0, 1, 2, 3)),), ((3, ()),), *[value for value in ODD_VALUES if not is_allowed(LINE, value)]]}
        self.assert_errors(lateness, fine, wrong)

    def test_a_plan_against_the_order(self):
        line = Line(TASKS, ((0, 1), (3, 2)), MODELS, STATES, 0)
        self.assert_bad(2, lateness, line, (1, 0, 2, 2, 0), 0, 0, ((0, ()),))
        self.assert_bad(2, lateness, line, (0, 0, 1, 2, 0), 0, 0, ((0, ()),))
        self.assertEqual(lateness(line, (0, 1, 2, 2, 0), 0, 0, ((0, ()),)), (9,))

    def test_arguments_by_name(self):
        self.assertEqual(lateness(row=((0, ()),), beat=1, station=0, plan=PLAN, line=LINE), (10,))

    def test_the_functions_stand_in_their_file(self):
        for name in ("is_row", "lateness"):
            self.assertEqual(getattr(rows, name).__module__, "anyrowline.rows")


if __name__ == "__main__":
    unittest.main()
