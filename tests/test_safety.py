"""Points 28 to 31, and guarantees 1, 2, 3 and 8 (point 33): safe and keeps."""

import itertools
import unittest

from anyrowline import safety
from anyrowline.checking import bounds_hold, loop_gains, row_overflows
from anyrowline.lines import Line, free_line, repeated, with_slips, with_times
from anyrowline.safety import keeps, safe
from trials import (HUGE, NO_INTEGERS, ODD_VALUES, SMALL, Trial, all_plans, are_held, does_overflow, is_allowed,
                    is_gaining, is_kept, random_line, some, told)

WRONG_STATIONS = [24, -1, 25, HUGE, -HUGE, SMALL, *NO_INTEGERS]
WRONG_TIMES = [300001, -1, -300000, HUGE, -HUGE, SMALL, *NO_INTEGERS]
WRONG_PLANS = [(1, 0, 1), *ODD_VALUES, (0, 0, 24), (-1, 0, 0), (0, 0), (0, 0, 0, 0), (0, 0, None)]


class Safe(Trial):
    def assert_safe(self, line, plan, station, window, beat):
        """What safe returns is as told, by a second, slower way; returns it."""
        value = safe(line, plan, station, window, beat)
        self.assert_plain(value)
        self.assertEqual(value, safe(line, list(plan), station, window, beat))
        self.assertEqual(len(value), 2)
        word, what = value
        expected, is_told = told(line, plan, station, window, beat)
        self.assertEqual(word, expected)
        if word == "bounds":
            self.assertEqual(what, is_told)
            self.assertTrue(are_held(line, plan, station, window, beat, what))
            self.assertIs(bounds_hold(line, plan, station, window, beat, what), True)
        elif word == "row":
            self.assertEqual(len(what), is_told)
            self.assert_row(line, plan, station, window, beat, what)
        else:
            self.assert_loop(line, plan, station, beat, what)
        return value

    def assert_row(self, line, plan, station, window, beat, row):
        self.assertTrue(is_allowed(line, row))
        self.assertTrue(does_overflow(line, plan, station, window, beat, row))
        self.assertIs(row_overflows(line, plan, station, window, beat, row), True)

    def assert_loop(self, line, plan, station, beat, loop):
        self.assertEqual(len(loop), 2)
        self.assertLessEqual(len(loop[0]), 60)
        self.assertLessEqual(len(loop[1]), 60)
        self.assertTrue(is_gaining(line, plan, station, beat, loop))
        self.assertIs(loop_gains(line, plan, station, beat, loop), True)


class OneLine(Safe):
    def test_the_overview(self):
        self.assertEqual(safe(SMALL, (0, 0, 1), 0, 4, 6), ("bounds", ((1, 0), (3, 0))))
        self.assertEqual(safe(SMALL, (0, 0, 1), 0, 2, 6), ("row", ((0, (1,)),)))
        self.assertEqual(safe(SMALL, (0, 0, 1), 0, 3, 6), ("bounds", ((1, 0), (3, 0))))
        self.assertEqual(safe(SMALL, (0, 0, 1), 1, 0, 3), ("bounds", ((0, 0), (0, 0))))
        self.assertEqual(safe(SMALL, (0, 0, 1), 1, 0, 2)[0], "row")
        self.assertEqual(safe(SMALL, (0, 0, 1), 2, 0, 0), ("bounds", ((None, 0), (None, 0))))

    def test_all_windows_and_beats(self):
        for station, window, beat in itertools.product(range(3), range(8), range(11)):
            for slips in (None, 0, 1, 2):
                with self.subTest(station=station, window=window, beat=beat, slips=slips):
                    self.assert_safe(with_slips(SMALL, slips), (0, 0, 1), station, window, beat)

    def test_bounds_of_states_and_slips_to_which_no_piece_comes(self):
        line = Line(((2, 5), (1, 1)), (), ((0,), (1,)), (((0, 2),), ((0, 1),), ((1, 2),), ((1, 0),)), 0, slips=2)
        # The first task comes once, so that it slips once at most; states 1 and 3 never come.
        none = (None, None, None)
        for station, window, beat, first, second in ((0, 3, 2, (None, None, 0), (None, 3, 0)),
                                                     (1, 0, 1, (None, None, 0), (0, 0, 0)),
                                                     (5, 0, 0, (None, None, 0), (None, None, 0))):
            self.assertEqual(safe(line, (0, 1), station, window, beat), ("bounds", (first, none, second, none)))
        self.assertEqual(safe(with_slips(line, None), (0, 1), 0, 3, 2), ("bounds", ((0,), (None,), (3,), (None,))))

    def test_a_state_that_is_not_reached_may_overflow(self):
        line = Line(((2, 2), (9, 9)), (), ((0,), (1,)), (((0, 0),), ((1, 1),)), 0)
        self.assertEqual(safe(line, (0, 0), 0, 0, 2), ("bounds", ((0,), (None,))))

    def test_tasks_without_extra_time_slip_too(self):
        line = free_line(((3, 3),), (), ((0,),), slips=2)
        self.assertEqual(safe(line, (0,), 0, 0, 3), ("bounds", ((0, 0, 0),)))
        self.assertEqual(safe(line, (0,), 1, 0, 3), ("bounds", ((None, None, 0),)))

    def test_slips_at_once_and_one_by_one(self):
        line = free_line(((1, 4), (1, 3), (1, 2)), (), ((0, 1, 2),), slips=8)
        self.assertEqual(safe(line, (0, 0, 0), 0, 16, 4), ("bounds", ((16, 14, 12, 10, 8, 6, 4, 2, 0),)))
        word, row = safe(line, (0, 0, 0), 0, 15, 4)
        self.assertEqual((word, len(row)), ("row", 4))
        self.assert_row(line, (0, 0, 0), 0, 15, 4, row)
        for window, many in ((0, 1), (1, 1), (4, 1), (5, 2), (8, 2), (9, 2), (10, 3), (13, 3), (14, 4), (15, 4)):
            word, row = safe(line, (0, 0, 0), 0, window, 4)
            self.assertEqual((word, len(row)), ("row", many))
            self.assert_row(line, (0, 0, 0), 0, window, 4, row)

    def test_the_tasks_with_the_greatest_extras_slip(self):
        line = free_line(((5, 6), (0, 4), (2, 9), (3, 3)), (), ((0, 1, 2, 3),), slips=2)
        self.assertEqual(safe(line, (0,) * 4, 0, 10, 10), ("row", ((0, (1, 2)),)))
        self.assertEqual(safe(line, (0,) * 4, 0, 11, 9), ("row", ((0, (1, 2)),)))
        self.assertEqual(safe(with_slips(line, 1), (0,) * 4, 0, 6, 10), ("row", ((0, (2,)),)))
        self.assertEqual(safe(line, (0, 0, 1, 0), 0, 2, 9), ("row", ((0, (0, 1)),)))

    def test_slips_none_slip_all(self):
        line = free_line(((5, 6), (0, 4), (2, 9), (3, 3)), (), ((0, 1, 2, 3), (1,)), slips=None)
        self.assertEqual(safe(line, (0,) * 4, 0, 0, 22), ("bounds", ((0,),)))
        self.assertEqual(safe(line, (0,) * 4, 0, 0, 21), ("row", ((0, (0, 1, 2, 3)),)))
        self.assertEqual(safe(line, (0, 1, 0, 1), 1, 0, 6), ("row", ((0, (1, 3)),)))

    def test_a_beat_of_0(self):
        line = free_line(((0, 0), (0, 7)), (), ((0, 1), (0,)), slips=0)
        self.assertEqual(safe(line, (0, 0), 0, 0, 0), ("bounds", ((0,),)))
        self.assertEqual(safe(with_slips(line, 2), (0, 0), 0, 14, 0), ("bounds", ((14, 7, 0),)))
        word, row = safe(with_slips(line, 2), (0, 0), 0, 13, 0)
        self.assertEqual((word, row), ("row", ((0, (1,)), (0, (1,)))))
        self.assertEqual(safe(with_slips(line, None), (0, 0), 0, 300000, 0)[0], "loop")


class RowsAndLoops(Safe):
    def test_a_row_of_1100_pieces_is_told_and_a_longer_one_not(self):
        line = free_line(((10, 10),), (), ((0,),))
        for window, many in ((0, 1), (1, 2), (500, 501), (1098, 1099), (1099, 1100)):
            self.assertEqual(safe(line, (0,), 0, window, 9), ("row", ((0, ()),) * many))
        for window in (1100, 1101, 5000, 300000):
            self.assertEqual(safe(line, (0,), 0, window, 9), ("loop", ((), ((0, ()),))))
        self.assertEqual(safe(line, (0,), 0, 0, 10), ("bounds", ((0,),)))
        self.assertEqual(safe(line, (0,), 0, 300000, 0)[0], "loop")
        self.assertEqual(len(safe(line, (0,), 0, 10999, 0)[1]), 1100)
        self.assertEqual(safe(line, (0,), 0, 11000, 0)[0], "loop")

    def test_slips_may_make_a_row_of_1100_pieces_overflow(self):
        line = free_line(((10, 25),), (), ((0,),), slips=2)
        self.assertEqual(len(safe(line, (0,), 0, 1129, 9)[1]), 1100)
        self.assert_row(line, (0,), 0, 1129, 9, safe(line, (0,), 0, 1129, 9)[1])
        self.assertEqual(safe(line, (0,), 0, 1130, 9)[0], "loop")
        self.assert_loop(line, (0,), 0, 9, safe(line, (0,), 0, 1130, 9)[1])

    def test_a_loop_that_gains_less_than_one_for_each_piece(self):
        # Seven pieces take 8 together beyond a beat of 1.
        line = repeated(free_line(((1, 1), (2, 2)), (), ((0,), (1,))), (0, 0, 0, 0, 0, 0, 1))
        for window in (0, 3, 156):
            word, row = safe(line, (0, 0), 0, window, 1)
            self.assertEqual((word, len(row)), ("row", 7 * (window + 1)))
        self.assertEqual(len(safe(line, (0, 0), 0, 156, 1)[1]), 1099)
        self.assert_loop(line, (0, 0), 0, 1, safe(line, (0, 0), 0, 157, 1)[1])
        self.assertEqual(len(safe(line, (0, 0), 0, 157, 1)[1][1]), 7)

    def test_the_loop_is_behind_a_head(self):
        states = tuple(((0, state + 1),) for state in range(59)) + (((1, 59),),)
        line = Line(((1, 1), (5, 5)), (), ((0,), (1,)), states, 0)
        self.assertEqual(safe(line, (0, 0), 0, 300000, 4), ("loop", (((0, ()),) * 59, ((0, ()),))))
        self.assertEqual(safe(line, (0, 0), 0, 3, 4), ("row", ((0, ()),) * 63))
        self.assertEqual(safe(line, (0, 0), 0, 0, 5)[0], "bounds")

    def test_a_loop_of_60_pieces(self):
        states = [[(1 if at == 30 else 0, (at + 1) % 60)] for at in range(60)]
        line = Line(((1, 1), (2, 2)), (), ((0,), (1,)), states, 7)
        word, loop = safe(line, (0, 0), 0, 300000, 1)
        self.assertEqual((word, len(loop[1])), ("loop", 60))
        self.assert_loop(line, (0, 0), 0, 1, loop)
        word, row = safe(line, (0, 0), 0, 17, 1)
        self.assertEqual((word, len(row)), ("row", 24 + 60 * 17))

    def test_slips_are_kept_for_where_they_count(self):
        # A slip costs 9 at the task that comes once, 1 at the other one.
        line = Line(((2, 3), (2, 11)), (), ((0,), (1,)), (((0, 1),), ((0, 2),), ((1, 3),), ((0, 3),)), 0, slips=1)
        self.assertEqual(safe(line, (0, 0), 0, 8, 2), ("row", ((0, ()), (0, ()), (0, (1,)))))
        self.assertEqual(safe(line, (0, 0), 0, 9, 2)[0], "bounds")
        self.assertEqual(safe(with_slips(line, 2), (0, 0), 0, 9, 2)[1][2], (0, (1,)))
        self.assertEqual(len(safe(with_slips(line, 2), (0, 0), 0, 9, 2)[1]), 3)

    def test_no_row_with_fewer_pieces_overflows(self):
        """By all allowed rows."""
        chosen = some(31)
        rows_found = 0
        for _ in range(400):
            line = random_line(chosen, tasks=3, states=3, slips=(None, 0, 1, 2))
            plan = chosen.choice(all_plans(line, 2))
            window, beat = chosen.choice((0, 2, 5)), chosen.randint(1, 12)
            word, row = safe(line, plan, 0, window, beat)
            if word == "row" and len(row) <= 4:
                self.assert_row(line, plan, 0, window, beat, row)
                shorter = self.all_rows(line, len(row) - 1)
                self.assertFalse(any(does_overflow(line, plan, 0, window, beat, other) for other in shorter))
                rows_found += len(row) > 1
        self.assertGreater(rows_found, 20)

    def all_rows(self, line, most):
        """All allowed rows of at most so many pieces."""
        found, longest = [], [((), line.start)]
        for _ in range(most):
            rows = []
            for row, state in longest:
                for arc, (model, to) in enumerate(line.states[state]):
                    needed = line.models[model]
                    for many in range(len(needed) + 1):
                        rows += [((*row, (arc, tasks)), to) for tasks in itertools.combinations(needed, many)]
            longest = [(row, to) for row, to in rows if is_allowed(line, row)]
            found += [row for row, _ in longest]
        return found


class SomeLines(Safe):
    def test_some_lines(self):
        chosen = some(29)
        words = {"bounds": 0, "row": 0}
        for _ in range(900):
            line = random_line(chosen)
            plan = chosen.choice(all_plans(line, 3))
            word, what = self.assert_safe(line, plan, chosen.randint(0, 2), chosen.choice((0, 1, 3, 10, 40)),
                                          chosen.randint(0, 15))
            words[word] += 1
        self.assertGreater(min(words.values()), 100)

    def test_loops_and_long_rows(self):
        chosen = some(32)
        words = {"bounds": 0, "row": 0, "loop": 0}
        for _ in range(90):
            line = random_line(chosen, states=6, high=chosen.choice((8, 40)))
            plan = chosen.choice(all_plans(line, 2))
            beat = chosen.randint(0, 10)
            window = chosen.choice((50, 300, 1000, 1090, 1100, 1110, 2000, 5000, 300000)) - chosen.randint(0, 5)
            words[self.assert_safe(line, plan, 0, window, beat)[0]] += 1
        self.assertGreater(min(words.values()), 10)

    def test_exactly_one_of_the_two(self):
        """Guarantee 1 and 3: where a row overflows or a loop gains, no bounds hold."""
        chosen = some(1)
        for _ in range(200):
            line = random_line(chosen, tasks=2, states=2, slips=(None, 0, 1))
            plan = chosen.choice(all_plans(line, 2))
            window, beat = chosen.randint(0, 3), chosen.randint(0, 10)
            lefts = 2 if line.slips == 1 else 1
            if safe(line, plan, 0, window, beat)[0] != "bounds":
                numbers = (None, *range(window + 2))
                for bounds in itertools.product(itertools.product(numbers, repeat=lefts), repeat=len(line.states)):
                    self.assertIs(bounds_hold(line, plan, 0, window, beat, bounds), False)

    def test_told_bounds_are_the_least(self):
        chosen = some(33)
        for _ in range(200):
            line = random_line(chosen)
            plan = chosen.choice(all_plans(line, 2))
            window, beat = chosen.choice((3, 10, 40)), chosen.randint(4, 25)
            word, bounds = safe(line, plan, 0, window, beat)
            if word == "bounds":
                for state, left in itertools.product(range(len(bounds)), range(len(bounds[0]))):
                    bound = bounds[state][left]
                    for less in () if bound is None else (None, bound - 1):
                        other = [list(row) for row in bounds]
                        other[state][left] = less
                        self.assertIs(bounds_hold(line, plan, 0, window, beat, other), False)


class Errors(Trial):
    def test_safe(self):
        fine = {1: SMALL, 2: (0, 0, 1), 3: 0, 4: 4, 5: 6}
        wrong = {2: WRONG_PLANS, 3: WRONG_STATIONS, 4: WRONG_TIMES, 5: WRONG_TIMES}
        self.assert_errors(safe, fine, wrong)

    def test_keeps(self):
        fine = {1: SMALL, 2: (0, 0, 1), 3: (4, 4), 4: 6}
        windows = [(), [], (0,) * 25, (0, -1), (0, 300001), (-1,), (0, None), (True,), (0, "0"), (0, (0,)), (HUGE,),
                   ((0, 0),), *[value for value in ODD_VALUES if value not in ((0,), [0])]]
        wrong = {2: WRONG_PLANS, 3: windows, 4: WRONG_TIMES}
        self.assert_errors(keeps, fine, wrong)

    def test_keeps_tells_a_wrong_beat_where_the_plan_is_for_more_stations(self):
        self.assert_bad(4, keeps, SMALL, (0, 0, 1), (4,), -1)

    def test_stations_up_to_23_and_the_greatest_window_and_beat(self):
        for station in range(24):
            self.assertEqual(safe(SMALL, (0, 0, 0), station, 300000, 300000)[0], "bounds")
        self.assertEqual(safe(SMALL, (23, 23, 23), 23, 300000, 0)[0], "loop")
        self.assertIs(keeps(SMALL, (0, 0, 0), (300000,) * 24, 300000), True)
        self.assertIs(keeps(SMALL, (23, 23, 23), (300000,) * 24, 0), False)

    def test_arguments_by_name(self):
        self.assertEqual(safe(beat=6, window=4, station=0, plan=(0, 0, 1), line=SMALL)[0], "bounds")
        self.assertIs(keeps(beat=6, windows=[4, 0], plan=[0, 0, 1], line=SMALL), True)

    def test_the_functions_stand_in_their_file(self):
        for name in ("safe", "keeps", "least_beat"):
            self.assertEqual(getattr(safety, name).__module__, "anyrowline.safety")


class Keeps(Trial):
    def test_the_overview(self):
        for windows, beat, told_so in (((4, 0), 6, True), ((3, 0), 6, True), ((2, 0), 6, False), ((4, 0), 5, True),
                                       ((3, 0), 5, False), ((4, 0), 4, False), ((300000, 300000), 4, False),
                                       ((300000, 300000), 5, True), ((9, 0), 3, False), ((0, 0), 9, True)):
            with self.subTest(windows=windows, beat=beat):
                self.assertIs(keeps(SMALL, (0, 0, 1), windows, beat), told_so)
                self.assertIs(keeps(SMALL, [0, 0, 1], list(windows), beat), told_so)

    def test_windows_for_more_or_fewer_stations(self):
        self.assertIs(keeps(SMALL, (0, 0, 1), (9,), 300000), False)
        self.assertIs(keeps(SMALL, (0, 0, 0), (9,), 300000), True)
        self.assertIs(keeps(SMALL, (0, 0, 1), (9, 0), 9), True)
        for more in range(1, 23):
            self.assertIs(keeps(SMALL, (0, 0, 1), (9, 0) + (0,) * more, 9), True)
            self.assertIs(keeps(SMALL, (0, 0, more), (9,) * more, 300000), False)
            self.assertIs(keeps(SMALL, (0, 0, more), (9,) * (more + 1), 9), True)

    def test_each_station_counts(self):
        line = free_line(((5, 5), (6, 6), (7, 7)), (), ((0, 1, 2),))
        self.assertIs(keeps(line, (0, 1, 2), (0, 0, 0), 7), True)
        for plan in itertools.permutations(range(3)):
            self.assertIs(keeps(line, plan, (0, 0, 0), 6), False)
            self.assertIs(keeps(line, plan, (0, 0, 0), 7), True)

    def test_some_lines(self):
        chosen = some(34)
        found = [0, 0]
        for _ in range(300):
            line = random_line(chosen)
            plan = chosen.choice(all_plans(line, 2))
            windows = [chosen.choice((0, 2, 5, 20)) for _ in range(2)]
            beat = chosen.randint(0, 20)
            does_keep = is_kept(line, plan, windows, beat)
            self.assertIs(keeps(line, plan, windows, beat), does_keep)
            found[does_keep] += 1
        self.assertGreater(min(found), 50)


class MoreSlack(Trial):
    """Point 33: what keeps does so with more slack, too."""

    def test_some_lines(self):
        chosen = some(35)
        for _ in range(400):
            line = random_line(chosen)
            plan = chosen.choice(all_plans(line, 2))
            windows = [chosen.choice((0, 2, 5, 20)) for _ in range(2)]
            beat = chosen.randint(3, 20)
            if keeps(line, plan, windows, beat):
                self.assertIs(keeps(line, plan, windows, beat + chosen.randint(0, 5)), True)
                self.assertIs(keeps(line, plan, [window + chosen.randint(0, 3) for window in windows], beat), True)
                for other in self.with_more_slack(chosen, line):
                    self.assertIs(keeps(other, plan, windows, beat), True)

    def with_more_slack(self, chosen, line):
        """The line with fewer slips, lesser times, fewer arcs, fewer pairs of the order."""
        if line.slips is None:
            yield with_slips(line, chosen.randint(0, 8))
        else:
            yield with_slips(line, chosen.randint(0, line.slips))
        lesser = [(chosen.randint(0, usual), upper) for usual, upper in line.tasks]
        yield with_times(line, lesser)
        yield with_times(line, [(usual, chosen.randint(usual, upper)) for usual, upper in lesser])
        states = [chosen.sample(arcs, chosen.randint(1, len(arcs))) for arcs in line.states]
        yield Line(line.tasks, line.order, line.models, states, line.start, slips=line.slips)
        yield Line(line.tasks, line.order[1:], line.models, line.states, line.start, slips=line.slips)


if __name__ == "__main__":
    unittest.main()
