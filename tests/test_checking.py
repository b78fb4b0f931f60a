"""Points 14, 26, 27, 29 and 30, and guarantees 2 and 3: row_overflows, loop_gains and bounds_hold."""

import itertools
import unittest

from anyrowline import checking
from anyrowline.checking import bounds_hold, loop_gains, row_overflows
from anyrowline.lines import Line, free_line, with_slips, with_times
from trials import (HUGE, NO_INTEGERS, ODD_VALUES, SMALL, Trial, all_plans, are_held, does_overflow, is_allowed,
                    is_gaining, listed, random_line, random_row, some, told)

TASKS = ((4, 6), (2, 9), (3, 3), (0, 7), (5, 7))
MODELS = ((0, 1, 2, 3, 4), (1, 4), (), (0, 2, 4))
STATES = (((0, 1), (1, 2), (2, 0)), ((3, 0),), ((1, 1), (2, 2)))
LINE = Line(TASKS, (), MODELS, STATES, 0, slips=3)
PLAN = (0, 0, 2, 2, 0)
WRONG_PLANS = [(0, 0, 0, 0), *ODD_VALUES, (0, 0, 0, 0, 24), (0, 0, 0, 0, -1), (0,) * 6, (0, 0, 0, 0, None)]
WRONG_STATIONS = [24, -1, 25, HUGE, -HUGE, LINE, *NO_INTEGERS]
WRONG_TIMES = [300001, -1, -300000, HUGE, -HUGE, LINE, *NO_INTEGERS]


class RowOverflows(Trial):
    def assert_over(self, is_over, line, plan, station, window, beat, row):
        self.assertIs(row_overflows(line, plan, station, window, beat, row), is_over)
        self.assertIs(row_overflows(line, list(plan), station, window, beat, listed(row)), is_over)

    def test_the_overview(self):
        self.assert_over(True, SMALL, (0, 0, 1), 0, 2, 6, ((0, (1,)),))
        self.assert_over(False, SMALL, (0, 0, 1), 0, 3, 6, ((0, (1,)),))
        self.assert_over(False, SMALL, (0, 0, 1), 0, 2, 7, ((0, (1,)),))
        self.assert_over(False, SMALL, (0, 0, 1), 0, 2, 6, ((0, ()),))

    def test_more_than_beat_and_window_together(self):
        row = ((0, (1,)), (0, ()))
        for beat, window, is_over in ((9, 18, False), (9, 17, False), (9, 9, False), (9, 8, True), (9, 0, True),
                                      (10, 7, False), (10, 6, True), (17, 0, False), (16, 0, False), (13, 1, False),
                                      (13, 0, True), (0, 27, False), (0, 26, True)):
            with self.subTest(beat=beat, window=window):
                self.assert_over(is_over, LINE, PLAN, 0, window, beat, row)

    def test_the_last_piece_alone_counts(self):
        line = free_line(((10, 10), (1, 1)), (), ((0,), (1,)))
        self.assert_over(True, line, (0, 0), 0, 4, 5, ((0, ()),))
        self.assert_over(False, line, (0, 0), 0, 4, 5, ((0, ()), (1, ())))
        self.assert_over(False, line, (0, 0), 0, 4, 5, ((0, ()), (1, ()), (1, ())))
        self.assert_over(True, line, (0, 0), 0, 4, 5, ((0, ()), (1, ()), (0, ())))
        # What goes beyond the window is not forgotten.
        self.assert_over(True, line, (0, 0), 0, 10, 5, ((0, ()), (0, ()), (0, ())))
        self.assert_over(True, line, (0, 0), 0, 10, 5, ((0, ()), (0, ()), (0, ()), (1, ())))
        self.assert_over(True, line, (0, 0), 0, 10, 5, ((0, ()), (0, ()), (1, ()), (0, ())))
        self.assert_over(False, line, (0, 0), 0, 10, 5, ((0, ()), (0, ()), (1, ()), (1, ()), (0, ())))

    def test_lateness_ahead_is_never_below_0(self):
        line = free_line(((10, 10), (1, 1)), (), ((0,), (1,)))
        self.assert_over(True, line, (0, 0), 0, 4, 5, ((1, ()), (1, ()), (1, ()), (0, ())))

    def test_idle_stations_and_other_stations(self):
        row = ((0, (0, 1, 4)),)
        for station in range(24):
            self.assert_over(station in (0, 2), LINE, PLAN, station, 0, 2, row)

    def test_the_greatest_window_and_beat(self):
        line = free_line(((10000, 10000),) * 24, (), (tuple(range(24)),))
        row = ((0, ()),)
        self.assert_over(False, line, (0,) * 24, 0, 300000, 300000, row)
        self.assert_over(False, line, (0,) * 24, 0, 0, 240000, row)
        self.assert_over(True, line, (0,) * 24, 0, 0, 239999, row)
        self.assert_over(False, line, (0,) * 24, 0, 240000, 0, row)
        self.assert_over(True, line, (0,) * 24, 0, 239999, 0, row)
        self.assert_over(True, line, (0,) * 24, 0, 300000, 0, row * 2)
        self.assert_over(True, line, (0,) * 24, 0, 300000, 239999, row * 300001)
        self.assert_over(False, line, (0,) * 24, 0, 300000, 239999, row * 300000)

    def test_rows_that_are_not_allowed(self):
        over = ((0, (0, 1, 4)), (0, ()))
        self.assert_over(True, LINE, PLAN, 0, 0, 0, over)
        for row in ((), ((0, (0, 1, 4)), (0, (0,))), ((0, (0, 1, 4)), (1, ())), ((0, (1, 0)),), ((3, ()),), ((-1, ()),),
                    ((1, (0,)),), ((0, (0, 1, 2, 4)),), ((0, ()), (0, ()), (0, (1, 1)))):
            with self.subTest(row=row):
                self.assert_over(False, LINE, PLAN, 0, 0, 0, row)

    def test_any_value(self):
        for line in (LINE, SMALL, with_slips(LINE, None)):
            for value in ODD_VALUES:
                with self.subTest(value=value):
                    plan = PLAN[:len(line.tasks)]
                    is_over = is_allowed(line, value) and does_overflow(line, plan, 0, 0, 0, value)
                    self.assertIs(row_overflows(line, plan, 0, 0, 0, value), is_over)

    def test_some_rows_also_with_one_piece_changed(self):
        chosen = some(27)
        many = 0
        for _ in range(2500):
            line = random_line(chosen)
            plan = chosen.choice(all_plans(line, 2))
            row = listed(random_row(chosen, line, chosen.randint(1, 6)))
            if chosen.random() < 0.4:
                piece = chosen.choice(row)
                piece[0] = chosen.randint(-1, 4)
                piece[1] = sorted(chosen.sample(range(-1, 6), chosen.randint(0, 2)))
            window, beat = chosen.randint(0, 5), chosen.randint(0, 14)
            is_over = is_allowed(line, row) and does_overflow(line, plan, 0, window, beat, row)
            many += is_over
            self.assertIs(row_overflows(line, plan, 0, window, beat, row), is_over)
        self.assertTrue(200 < many < 2200, many)

    def test_more_overflows_too(self):
        """Guarantee 3: with a smaller beat or window, greater times or more tasks at the station."""
        chosen = some(3)
        for _ in range(600):
            line = random_line(chosen)
            plan = [chosen.randint(0, 1) for _ in line.tasks]
            line = Line(line.tasks, (), line.models, line.states, line.start, slips=line.slips)
            row = random_row(chosen, line, chosen.randint(1, 6))
            window, beat = chosen.randint(0, 5), chosen.randint(0, 10)
            if row_overflows(line, plan, 0, window, beat, row):
                self.assertIs(row_overflows(line, plan, 0, chosen.randint(0, window), beat, row), True)
                self.assertIs(row_overflows(line, plan, 0, window, chosen.randint(0, beat), row), True)
                more = [station * chosen.randint(0, 1) for station in plan]
                self.assertIs(row_overflows(line, more, 0, window, beat, row), True)
                times = [(usual + at % 2, upper + 1) for at, (usual, upper) in enumerate(line.tasks)]
                self.assertIs(row_overflows(with_times(line, times), plan, 0, window, beat, row), True)

    def test_errors(self):
        fine = {1: LINE, 2: PLAN, 3: 0, 4: 5, 5: 9, 6: ((0, ()),)}
        wrong = {2: WRONG_PLANS, 3: WRONG_STATIONS, 4: WRONG_TIMES, 5: WRONG_TIMES}
        self.assert_errors(row_overflows, fine, wrong)
        self.assert_errors(row_overflows, {**fine, 6: None}, {2: [None], 3: [-1], 4: [-1], 5: [-1]})

    def test_arguments_by_name(self):
        self.assertIs(row_overflows(row=((0, ()),), beat=1, window=0, station=0, plan=PLAN, line=LINE), True)


class LoopGains(Trial):
    LOOP = (((0, (1,)), (0, ())), ((0, ()), (0, ())))

    def assert_gains(self, does_gain, line, plan, station, beat, loop):
        self.assertIs(loop_gains(line, plan, station, beat, loop), does_gain)
        self.assertIs(loop_gains(line, list(plan), station, beat, listed(loop)), does_gain)

    def test_more_than_the_beat_for_each_piece(self):
        # The pieces of the body take 11 and 9 at station 0, 3 and 3 at station 2.
        for beat, does_gain in ((0, True), (9, True), (10, False), (11, False), (300000, False)):
            self.assert_gains(does_gain, LINE, PLAN, 0, beat, self.LOOP)
        for beat, does_gain in ((0, True), (2, True), (3, False), (4, False)):
            self.assert_gains(does_gain, LINE, PLAN, 2, beat, self.LOOP)
        for station in (1, 3, 23):
            self.assert_gains(False, LINE, PLAN, station, 0, self.LOOP)

    def test_sums_that_no_whole_beat_divides(self):
        line = Line(((3, 3), (4, 4)), (), ((0,), (1,)), (((0, 1),), ((1, 0),)), 0)
        self.assert_gains(True, line, (0, 0), 0, 3, ((), ((0, ()), (0, ()))))
        self.assert_gains(False, line, (0, 0), 0, 4, ((), ((0, ()), (0, ()))))
        self.assert_gains(True, line, (0, 0), 0, 3, ((), ((0, ()), (0, ()), (0, ()), (0, ()))))
        self.assert_gains(True, line, (0, 0), 0, 3, (((0, ()),), ((0, ()), (0, ()))))

    def test_the_head_does_not_gain(self):
        line = free_line(((10, 10), (1, 1)), (), ((0,), (1,)))
        self.assert_gains(False, line, (0, 0), 0, 1, (((0, ()),), ((1, ()),)))
        self.assert_gains(True, line, (0, 0), 0, 9, (((1, ()),), ((0, ()),)))

    def test_the_state_behind_is_the_one_behind_the_head(self):
        self.assert_gains(True, LINE, PLAN, 0, 5, ((), ((0, ()), (0, ()))))
        self.assert_gains(False, LINE, PLAN, 0, 5, ((), ((0, ()),)))
        self.assert_gains(False, LINE, PLAN, 0, 5, ((), ((0, ()), (0, ()), (0, ()))))
        self.assert_gains(True, LINE, PLAN, 0, 5, (((0, ()),), ((0, ()), (0, ()))))
        self.assert_gains(False, LINE, PLAN, 0, 5, (((0, ()),), ((0, ()),)))
        # Behind this head the body takes 7, 9 and 7.
        self.assert_gains(True, LINE, PLAN, 0, 7, (((1, ()),), ((0, ()), (0, ()), (1, ()))))
        self.assert_gains(False, LINE, PLAN, 0, 8, (((1, ()),), ((0, ()), (0, ()), (1, ()))))
        self.assert_gains(False, LINE, PLAN, 0, 0, (((1, ()),), ((1, ()),)))
        self.assert_gains(False, LINE, PLAN, 0, 5, (((1, ()),), ((0, ()), (0, ()))))

    def test_without_a_body(self):
        for head in ((), ((0, ()),), ((0, ()), (0, ()))):
            self.assert_gains(False, LINE, PLAN, 0, 0, (head, ()))

    def test_slips_in_the_body(self):
        for task in range(5):
            for loop in (((), ((0, (task,)), (0, ()))),
                         (((0, ()), (0, ())), ((0, ()), (0, ()), (0, (task,)), (0, ())))):
                self.assert_gains(False, LINE, PLAN, 0, 0, loop)
                self.assert_gains(False, with_slips(LINE, 0), PLAN, 0, 0, loop)
                self.assert_gains(True, with_slips(LINE, None), PLAN, 0, 0, loop)

    def test_slips_in_the_body_gain_if_slips_are_none(self):
        line = with_slips(LINE, None)
        loop = ((), ((0, (0, 1, 2, 4)), (0, (4,))))
        self.assert_gains(True, line, PLAN, 0, 16, loop)
        self.assert_gains(False, line, PLAN, 0, 17, loop)
        self.assert_gains(False, line, PLAN, 2, 3, loop)

    def test_slips_in_the_head(self):
        for slips in range(4):
            line = with_slips(LINE, slips)
            for many in range(5):
                head = ((0, (0, 1, 2, 3)[:many]), (0, ()))
                self.assert_gains(many <= slips, line, PLAN, 0, 9, (head, self.LOOP[1]))

    def test_heads_and_bodies_that_are_no_rows(self):
        head, body = self.LOOP
        for loop in ((head, body, ()), (head,), (head[0], body), (None, body), (head, None), ("", body), (head, "0"),
                     (0, body), (head, 0), (((3, ()),), body), (head, ((3, ()), (0, ()))), (head, ((0, ()), (1, ()))),
                     (((0, (1, 0)), (0, ())), body), (head, ((0, [None]), (0, ()))), ((None,), body), (head, (None,)),
                     (((0, ()), (0, ()), None), body), (head, (*body, None)), (((0, ()),), body + body[:1])):
            with self.subTest(loop=loop):
                self.assert_gains(False, LINE, PLAN, 0, 0, loop)

    def test_any_value(self):
        for line in (LINE, SMALL, with_slips(LINE, None)):
            for value in ODD_VALUES:
                with self.subTest(value=value):
                    self.assertIs(loop_gains(line, PLAN[:len(line.tasks)], 0, 0, value), False)
                    self.assertIs(loop_gains(line, PLAN[:len(line.tasks)], 0, 0, (value, value)),
                                  is_gaining(line, PLAN[:len(line.tasks)], 0, 0, (value, value)))

    def test_a_loop_that_gains_overflows_every_window(self):
        for rounds, window in ((1, 0), (2, 1), (51, 50), (30001, 30000)):
            head, body = self.LOOP
            row = head + body * rounds
            self.assertIs(row_overflows(LINE, PLAN, 0, window, 9, row + ((0, ()),)), True)

    def test_some_loops_also_with_head_or_body_changed(self):
        chosen = some(28)
        many = 0
        for _ in range(4000):
            line = random_line(chosen, states=3)
            plan = chosen.choice(all_plans(line, 2))
            row = listed(random_row(chosen, line, chosen.randint(1, 5)))
            if chosen.random() < 0.6:
                row = [[arc, []] for arc, _ in row]
            if chosen.random() < 0.2:
                chosen.choice(row)[0] += chosen.choice((-1, 1))
            cut = chosen.randint(0, len(row))
            value, beat = (row[:cut], row[cut:]), chosen.randint(0, 12)
            does_gain = is_gaining(line, plan, 0, beat, value)
            many += does_gain
            self.assertIs(loop_gains(line, plan, 0, beat, value), does_gain)
        self.assertTrue(200 < many < 3000)

    def test_errors(self):
        fine = {1: LINE, 2: PLAN, 3: 0, 4: 9, 5: self.LOOP}
        wrong = {2: WRONG_PLANS, 3: WRONG_STATIONS, 4: WRONG_TIMES}
        self.assert_errors(loop_gains, fine, wrong)
        self.assert_errors(loop_gains, {**fine, 5: None}, {2: [None], 3: [-1], 4: [-1]})

    def test_arguments_by_name(self):
        self.assertIs(loop_gains(value=self.LOOP, beat=1, station=0, plan=PLAN, line=LINE), True)


class BoundsHold(Trial):
    BOUNDS = ((1, 0), (3, 0))

    def assert_hold(self, do_hold, line, plan, station, window, beat, bounds):
        self.assertIs(bounds_hold(line, plan, station, window, beat, bounds), do_hold)
        self.assertIs(bounds_hold(line, list(plan), station, window, beat, listed(bounds)), do_hold)

    def small(self, do_hold, bounds, window=4, beat=6):
        self.assert_hold(do_hold, SMALL, (0, 0, 1), 0, window, beat, bounds)

    def test_the_overview(self):
        # Left 1 in state 0: the first piece takes 6 or, with a slip, 9; in state 1 the second one takes 4.
        self.small(True, ((1, 0), (3, 0)))
        self.small(True, ((1, 0), (3, 0)), window=3)
        self.small(False, ((1, 0), (3, 0)), window=2)
        self.small(False, ((1, 0), (3, 0)), beat=5)
        self.small(True, ((1, 0), (3, 0)), beat=7)

    def test_one_bound_changed(self):
        for bounds in (((0, 0), (3, 0)), ((1, 0), (2, 0)), ((1, 0), (3, None)), ((None, 0), (3, 0)),
                       ((1, None), (3, 0)), ((1, 0), (None, 0))):
            self.small(False, bounds)
        self.small(True, ((2, 0), (3, 0)))
        # The slip may come behind any lateness that is told.
        self.small(False, ((1, 1), (4, 0)))
        self.small(False, ((1, 1), (4, 1)))
        self.small(True, ((2, 1), (4, 1)))
        self.small(False, ((2, 1), (3, 1)))
        self.small(False, ((2, 1), (3, 0)))
        self.small(False, ((5, 0), (3, 0)), window=4)
        self.small(True, ((1, 0), (3, 2)), window=4)
        self.small(False, ((1, 0), (3, 3)), window=4)
        self.small(True, ((4, 1), (4, 1)), window=4)
        self.small(True, ((4, 1), (6, 1)), window=4)
        self.small(False, ((4, 1), (7, 1)), window=4)

    def test_the_start_with_all_slips_needs_a_bound(self):
        self.small(False, ((None, None), (None, None)))
        self.small(False, ((0, None), (0, None)))
        self.small(False, ((None, None), (0, 0)))
        line = Line(SMALL.tasks, SMALL.order, SMALL.models, SMALL.states, 1, slips=1)
        for bounds, do_hold in ((((0, 0), (0, 0)), False), (((1, 0), (3, None)), False), (((1, 0), (3, 0)), True),
                                (((3, 0), (3, 0)), True)):
            self.assert_hold(do_hold, line, (0, 0, 1), 0, 4, 6, bounds)

    def test_states_to_which_no_row_comes_need_none_but_their_bounds_count(self):
        line = Line(((5, 5),), (), ((0,),), (((0, 0),), ((0, 1),)), 0)
        self.assert_hold(True, line, (0,), 0, 0, 5, ((0,), (None,)))
        self.assert_hold(True, line, (0,), 0, 0, 5, ((0,), (0,)))
        self.assert_hold(False, line, (0,), 0, 0, 5, ((0,), (1,)))
        self.assert_hold(True, line, (0,), 0, 1, 5, ((0,), (1,)))
        self.assert_hold(False, line, (0,), 0, 0, 5, ((None,), (0,)))

    def test_slips_none(self):
        # Every piece takes 9 in state 0 and 4 in state 1.
        line = with_slips(SMALL, None)
        for window, beat, bounds, do_hold in (
                (2, 7, ((0,), (2,)), True), (1, 7, ((0,), (2,)), False), (2, 7, ((0,), (1,)), False),
                (3, 7, ((1,), (3,)), True), (2, 7, ((1,), (3,)), False), (3, 7, ((1,), (2,)), False),
                (2, 7, ((0,), (3,)), True), (2, 7, ((0,), (4,)), False), (2, 7, ((0,), (None,)), False),
                (2, 7, ((None,), (2,)), False), (300000, 6, ((300000,), (300000,)), False),
                (2, 7, ((0, 0), (2, 0)), False), (2, 7, ((0, 0), (2, 2)), False), (2, 7, ((), ()), False)):
            with self.subTest(window=window, beat=beat, bounds=bounds):
                self.assert_hold(do_hold, line, (0, 0, 1), 0, window, beat, bounds)

    def test_slips_of_8_and_tasks_that_slip_at_once(self):
        line = free_line(((1, 4), (1, 3), (1, 2)), (), ((0, 1, 2),), slips=8)
        # A piece that slips once makes the station later by 2, one that slips twice by 4, one without a slip by -1.
        least = ((16, 14, 12, 10, 8, 6, 4, 2, 0),)
        self.assert_hold(True, line, (0, 0, 0), 0, 100, 4, least)
        self.assert_hold(True, line, (0, 0, 0), 0, 16, 4, least)
        self.assert_hold(False, line, (0, 0, 0), 0, 15, 4, least)
        for at, bound in enumerate(least[0]):
            less = (*least[0][:at], bound - 1 if bound else None, *least[0][at + 1:])
            self.assert_hold(False, line, (0, 0, 0), 0, 100, 4, (less,))

    def test_idle_stations(self):
        self.assert_hold(True, SMALL, (0, 0, 1), 5, 0, 0, ((None, 0), (None, 0)))
        self.assert_hold(True, SMALL, (0, 0, 1), 5, 0, 0, ((0, 0), (0, 0)))
        self.assert_hold(False, SMALL, (0, 0, 1), 5, 0, 0, ((1, 0), (1, 0)))
        self.assert_hold(True, SMALL, (0, 0, 1), 5, 1, 0, ((1, 0), (1, 0)))
        self.assert_hold(False, SMALL, (0, 0, 1), 5, 0, 0, ((None, 0), (None, None)))

    def test_values_of_another_form(self):
        for bounds in (((1, 0),), ((1, 0), (3, 0), (0, 0)), ((1, 0), (3,)), ((1,), (3,)), ((1, 0, 0), (3, 0, 0)),
                       ((1, 0), (3, 0, 0)), ((1, 0), None), ((1, 0), "30"), ("10", "30"), ((1, 0), 3), (1, 0, 3, 0),
                       ((1, 0), (3, "0")), ((1, 0), (3, True)), ((1, False), (3, 0)), ((True, 0), (3, 0)),
                       ((1, 0), (3, (0,))), ((1, 0), (3, -1)), ((300001, 0), (3, 0)), ((HUGE, 0), (HUGE, 0)),
                       ((1, 0), (3, 0), None), ((1, 0), (3, [])), ((1, -HUGE), (3, 0))):
            with self.subTest(bounds=bounds):
                self.small(False, bounds, 300000, 300000)

    def test_bounds_up_to_300000(self):
        for bound, do_hold in ((299999, True), (300000, True), (300001, False)):
            self.small(do_hold, ((bound, 0), (6, 0)), 300000, 300000)

    def test_any_value(self):
        for line in (LINE, SMALL, with_slips(LINE, None)):
            for value in ODD_VALUES:
                with self.subTest(value=value):
                    self.assertIs(bounds_hold(line, PLAN[:len(line.tasks)], 0, 300000, 300000, value), False)

    def test_all_small_bounds_of_a_small_line(self):
        numbers = (None, 0, 1, 2, 3, 4)
        found = 0
        for first in itertools.product(numbers, repeat=2):
            for second in itertools.product(numbers, repeat=2):
                do_hold = are_held(SMALL, (0, 0, 1), 0, 4, 6, (first, second))
                self.assertIs(bounds_hold(SMALL, (0, 0, 1), 0, 4, 6, (first, second)), do_hold)
                found += do_hold
        self.assertTrue(10 < found < 500)

    def test_some_bounds_also_with_one_changed(self):
        chosen = some(30)
        many = [0, 0]
        for _ in range(700):
            line = random_line(chosen)
            plan = chosen.choice(all_plans(line, 2))
            window, beat = chosen.choice((0, 3, 10, 40)), chosen.randint(4, 25)
            word, bounds = told(line, plan, 0, window, beat)
            if word == "bounds":
                self.assertIs(bounds_hold(line, plan, 0, window, beat, bounds), True)
                for _ in range(4):
                    other = listed(bounds)
                    row = chosen.choice(other)
                    at = chosen.randrange(len(row))
                    row[at] = chosen.choice((None, 0, 1, chosen.randint(0, 12), (row[at] or 0) + 1))
                    do_hold = are_held(line, plan, 0, window, beat, other)
                    self.assertIs(bounds_hold(line, plan, 0, window, beat, other), do_hold)
                    many[do_hold] += 1
        self.assertGreater(min(many), 300)

    def test_what_holds_bounds_all_rows(self):
        """Guarantee 2, for all rows of up to 4 pieces."""
        chosen = some(2)
        for _ in range(150):
            line = random_line(chosen, tasks=3, states=2, slips=(None, 0, 1, 2))
            plan = chosen.choice(all_plans(line, 2))
            window, beat = chosen.choice((0, 3, 10)), chosen.randint(3, 20)
            word, bounds = told(line, plan, 0, window, beat)
            if word == "bounds":
                more = [[bound if bound is None else bound + chosen.randint(0, 2) for bound in row] for row in bounds]
                for held in (bounds, more):
                    if bounds_hold(line, plan, 0, window, beat, held):
                        self.follow(line, plan, window, beat, held, (line.start, line.slips, 0), 4)

    def follow(self, line, plan, window, beat, bounds, place, pieces):
        state, left, late = place
        here = [task for task in range(len(line.tasks)) if plan[task] == 0]
        bound = bounds[state][left or 0]
        self.assertIsNotNone(bound)
        self.assertLessEqual(late, bound)
        for model, to in line.states[state] if pieces else ():
            needed = [task for task in line.models[model] if task in here]
            for times in itertools.product(*[{line.tasks[task], line.tasks[task][::-1]} for task in needed]):
                slipped = len([time for time, task in zip(times, needed) if time[0] != line.tasks[task][0]])
                if left is None or slipped <= left:
                    excess = late + sum(time[0] for time in times) - beat
                    self.assertLessEqual(excess, window)
                    behind = (to, None if left is None else left - slipped, max(0, excess))
                    self.follow(line, plan, window, beat, bounds, behind, pieces - 1)

    def test_errors(self):
        fine = {1: SMALL, 2: (0, 0, 1), 3: 0, 4: 4, 5: 6, 6: self.BOUNDS}
        plans = [(1, 0, 1), *WRONG_PLANS, (0, 0, 24), (0, 0), (0, 0, 0, 0)]
        wrong = {2: plans, 3: WRONG_STATIONS, 4: WRONG_TIMES, 5: WRONG_TIMES}
        self.assert_errors(bounds_hold, fine, wrong)
        self.assert_errors(bounds_hold, {**fine, 6: None}, {2: [None], 3: [-1], 4: [-1], 5: [-1]})

    def test_the_value_is_not_changed(self):
        bounds = [[1, 0], [3, 0]]
        bounds_hold(SMALL, (0, 0, 1), 0, 4, 6, bounds)
        self.assertEqual(bounds, [[1, 0], [3, 0]])

    def test_arguments_by_name(self):
        self.assertIs(bounds_hold(bounds=self.BOUNDS, beat=6, window=4, station=0, plan=(0, 0, 1), line=SMALL), True)

    def test_the_functions_stand_in_their_file(self):
        for name in ("row_overflows", "loop_gains", "bounds_hold"):
            self.assertEqual(getattr(checking, name).__module__, "anyrowline.checking")


if __name__ == "__main__":
    unittest.main()
