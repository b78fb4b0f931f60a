"""Point 32 and guarantee 4: least_beat."""

import itertools
import unittest

from anyrowline.checking import bounds_hold, loop_gains, row_overflows
from anyrowline.lines import Line, free_line, repeated, with_slips
from anyrowline.safety import keeps, least_beat, safe
from trials import (HUGE, ODD_VALUES, SMALL, Trial, all_plans, does_overflow, is_allowed, is_gaining, least_by_trial,
                    random_line, some, told)


class LeastBeat(Trial):
    def assert_least(self, line, plan, windows):
        """What least_beat returns is as told; returns it."""
        value = least_beat(line, plan, windows)
        self.assert_plain(value)
        self.assertEqual(value, least_beat(line, list(plan), list(windows)))
        beat, bounds, proof = value
        self.assertIs(type(beat), int)
        self.assertEqual(len(bounds), len(windows))
        for station, window in enumerate(windows):
            self.assertEqual(safe(line, plan, station, window, beat), ("bounds", bounds[station]))
            self.assertIs(bounds_hold(line, plan, station, window, beat, bounds[station]), True)
        self.assertIs(keeps(line, plan, windows, beat), True)
        if beat == 0:
            self.assertIsNone(proof)
        else:
            self.assertIs(keeps(line, plan, windows, beat - 1), False)
            self.assert_proof(line, plan, windows, beat - 1, proof)
        return value

    def assert_proof(self, line, plan, windows, beat, proof):
        """The pair (station, told) against this beat: the shortest row at any station, or a loop."""
        station, (word, what) = proof
        everywhere = [safe(line, plan, at, window, beat) for at, window in enumerate(windows)]
        rows = [(len(found), at) for at, (kind, found) in enumerate(everywhere) if kind == "row"]
        if rows:
            self.assertEqual((word, len(what), station), ("row", *min(rows)))
            self.assertTrue(is_allowed(line, what))
            self.assertTrue(does_overflow(line, plan, station, windows[station], beat, what))
            self.assertIs(row_overflows(line, plan, station, windows[station], beat, what), True)
        else:
            self.assertEqual((word, station), ("loop", [kind for kind, _ in everywhere].index("loop")))
            self.assertTrue(is_gaining(line, plan, station, beat, what))
            self.assertIs(loop_gains(line, plan, station, beat, what), True)
            self.assertLessEqual(max(len(what[0]), len(what[1])), 60)


class OneLine(LeastBeat):
    def test_the_overview(self):
        value = self.assert_least(SMALL, (0, 0, 1), (4, 0))
        self.assertEqual(value, (5, (((3, 0), (4, 1)), ((0, 0), (0, 0))), (0, ("row", ((0, (1,)),)))))

    def test_each_window_of_the_overview(self):
        # A row takes 6 and 4 in turns, once 9; without any window the beat is 9, with the greatest one 5.
        beats = [9, 8, 7, 6, 5, 5, 5, 5, 5]
        for window, beat in enumerate(beats):
            self.assertEqual(self.assert_least(SMALL, (0, 0, 1), (window, 0))[0], beat)
        self.assertEqual(self.assert_least(SMALL, (0, 0, 1), (300000, 300000))[0], 5)

    def test_a_beat_of_0(self):
        line = free_line(((0, 0), (0, 0)), (), ((0, 1), ()), slips=3)
        self.assertEqual(self.assert_least(line, (0, 1), (0, 0)), (0, (((0, 0, 0, 0),), ((0, 0, 0, 0),)), None))
        line = free_line(((0, 5),), (), ((0,),), slips=2)
        self.assertEqual(self.assert_least(line, (0,), (10,)), (0, (((10, 5, 0),),), None))
        self.assertEqual(self.assert_least(line, (0,), (9,))[0], 1)
        line = free_line(((5, 5),), (), ((),))
        self.assertEqual(self.assert_least(line, (0,), (0, 0)), (0, (((0,),), ((0,),)), None))

    def test_idle_stations_have_bounds(self):
        value = self.assert_least(SMALL, (1, 1, 3), (0, 4, 7, 0, 9))
        self.assertEqual(value[0], 5)
        self.assertEqual(value[1][0], ((None, 0), (None, 0)))
        self.assertEqual(value[1][4], ((None, 0), (None, 0)))
        self.assertEqual(value[2][0], 1)

    def test_the_shortest_row_of_all_stations(self):
        # With a beat of 9 each piece makes each station later by 1, as far as its window reaches.
        line = free_line(((10, 10), (10, 10), (10, 10)), (), ((0, 1, 2),))
        for windows in itertools.product((0, 1, 5), repeat=3):
            value = self.assert_least(line, (0, 1, 2), windows)
            self.assertEqual(value[0], 10)
            station = windows.index(min(windows))
            self.assertEqual(value[2], (station, ("row", ((0, ()),) * (min(windows) + 1))))

    def test_the_least_station_of_several(self):
        line = free_line(((10, 10), (10, 10), (3, 3)), (), ((0, 1, 2),))
        for plan in ((0, 1, 2), (1, 2, 0), (2, 1, 0), (2, 3, 1)):
            value = self.assert_least(line, plan, (7,) * 4)
            self.assertEqual(value[2], (min(plan[:2]), ("row", ((0, ()),) * 8)))

    def test_rows_of_stations_whose_tasks_come_one_behind_the_other(self):
        models = ((), (0,), (1,), (2,))
        for first in itertools.permutations((1, 2, 3)):
            states = [[(0, 1)]] + [[(model, at + 2)] for at, model in enumerate(first)] + [[(0, 4)]]
            line = Line(((10, 10),) * 3, (), models, states, 0)
            value = self.assert_least(line, (0, 1, 2), (0, 0, 0))
            self.assertEqual(value[2], (first[0] - 1, ("row", ((0, ()),) * 2)))
            value = self.assert_least(line, (2, 1, 0), (0, 0, 0))
            self.assertEqual(value[2], (3 - first[0], ("row", ((0, ()),) * 2)))

    def test_the_least_station_where_a_loop_gains_at_another_one(self):
        # With a beat of 9 the first piece overflows at both, and only the second task comes again.
        line = Line(((11, 11), (10, 10)), (), ((0, 1), (1,)), (((0, 1),), ((1, 1),)), 0)
        for plan, windows in (((0, 1), (1, 0)), ((1, 0), (0, 1)), ((2, 3), (0, 0, 1, 0)), ((3, 2), (0, 0, 0, 1))):
            value = self.assert_least(line, plan, windows)
            self.assertEqual((value[0], value[2]), (10, (min(plan), ("row", ((0, ()),)))))

    def test_a_row_goes_before_a_loop(self):
        line = free_line(((10, 10), (10, 10)), (), ((0, 1),))
        self.assertEqual(self.assert_least(line, (0, 1), (300000, 1099))[2], (1, ("row", ((0, ()),) * 1100)))
        self.assertEqual(self.assert_least(line, (0, 1), (300000, 1100))[2], (0, ("loop", ((), ((0, ()),)))))
        self.assertEqual(self.assert_least(line, (1, 0), (1100, 1100))[2], (0, ("loop", ((), ((0, ()),)))))
        self.assertEqual(self.assert_least(line, (2, 1), (0, 1100, 2000))[2], (1, ("loop", ((), ((0, ()),)))))
        self.assertEqual(self.assert_least(line, (1, 2), (0, 2000, 1098))[2], (2, ("row", ((0, ()),) * 1099)))

    def test_a_mean_that_is_no_integer(self):
        line = repeated(free_line(((3, 3), (4, 4), (9, 9)), (), ((0,), (1,), (2,))), (0, 1, 0, 2))
        self.assertEqual(self.assert_least(line, (0, 0, 0), (300000,))[0], 5)
        self.assertEqual(self.assert_least(line, (0, 0, 0), (0,))[0], 9)
        self.assertEqual(self.assert_least(line, (0, 0, 0), (2,))[0], 7)
        self.assertEqual(self.assert_least(line, (0, 0, 0), (4,))[0], 5)

    def test_slips_none(self):
        line = with_slips(SMALL, None)
        # The pieces take 9 and 4 in turns.
        for window, beat in ((0, 9), (1, 8), (2, 7), (3, 7), (300000, 7)):
            self.assertEqual(self.assert_least(line, (0, 0, 1), (window, 9))[0], beat)

    def test_the_greatest_beat(self):
        for slips in (None, 0, 8):
            line = free_line(((10000, 10000),) * 24, (), (tuple(range(24)),), slips=slips)
            self.assertEqual(self.assert_least(line, (0,) * 24, (0,))[0], 240000)
            self.assertEqual(self.assert_least(line, (0,) * 24, (300000,))[0], 240000)
            self.assertEqual(self.assert_least(line, tuple(range(24)), (0,) * 24)[0], 10000)

    def test_more_windows_than_the_plan_needs(self):
        for more in range(23):
            value = self.assert_least(SMALL, (0, 0, 0), (5,) + (0,) * more)
            self.assertEqual((len(value[1]), value[2][0]), (more + 1, 0))


class SomeLines(LeastBeat):
    def test_against_all_beats_from_0_on(self):
        chosen = some(320)
        beats = []
        for _ in range(250):
            line = random_line(chosen)
            stations = chosen.randint(1, 3)
            plan = chosen.choice(all_plans(line, stations))
            windows = [chosen.choice((0, 1, 3, 10, 40, 300000)) for _ in range(stations)]
            beats.append(self.assert_least(line, plan, windows)[0])
            short = [min(window, 40) for window in windows]
            self.assertEqual(self.assert_least(line, plan, short)[0], least_by_trial(line, plan, short))
        self.assertTrue(0 in beats and max(beats) > 15)

    def test_more_stations(self):
        chosen = some(322)
        words = []
        for _ in range(120):
            line = random_line(chosen, tasks=6, states=3, high=chosen.choice((4, 8, 30)))
            line = Line(line.tasks, (), line.models, line.states, line.start, slips=line.slips)
            stations = chosen.randint(2, 6)
            plan = [chosen.randrange(stations) for _ in line.tasks]
            windows = [chosen.choice((0, 5, 5, 20, 100, 400, 1000, 1099, 1100, 3000)) for _ in range(stations)]
            beat, bounds, proof = self.assert_least(line, plan, windows)
            words.append(proof and proof[1][0])
        self.assertGreater(min(words.count("row"), words.count("loop")), 10)

    def test_loops(self):
        chosen = some(321)
        words = []
        for _ in range(60):
            line = random_line(chosen, states=6, high=20)
            plan = chosen.choice(all_plans(line, 2))
            beat, bounds, proof = self.assert_least(line, plan, (300000, 300000))
            if beat:
                station, (word, what) = proof
                self.assertEqual(told(line, plan, station, 300000, beat - 1)[0], word)
                words.append(word)
        self.assertGreater(words.count("loop"), 30)


class Errors(Trial):
    def test_errors(self):
        fine = {1: SMALL, 2: (0, 0, 1), 3: (4, 4)}
        plans = [(1, 0, 1), *ODD_VALUES, (0, 0, 24), (-1, 0, 0), (0, 0), (0, 0, 0, 0), (0, 0, None)]
        windows = [(), [], (0,) * 25, (0, -1), (0, 300001), (-1,), (0, None), (True,), (0, "0"), (0, (0,)), (HUGE,),
                   ((0, 0),), *[value for value in ODD_VALUES if value not in ((0,), [0])]]
        self.assert_errors(least_beat, fine, {2: plans, 3: windows})

    def test_plans_for_more_stations(self):
        self.assert_bad(2, least_beat, SMALL, (0, 0, 1), (4,))
        self.assert_bad(2, least_beat, SMALL, [0, 0, 23], [4] * 23)
        self.assert_bad(2, least_beat, SMALL, (2, 2, 2), (4, 4))
        # Windows that are not as told come first, a plan that is none before them.
        self.assert_bad(3, least_beat, SMALL, (0, 0, 1), (-1,))
        self.assert_bad(3, least_beat, SMALL, (0, 0, 23), ())
        self.assert_bad(2, least_beat, SMALL, (1, 0, 1), (-1,))
        self.assertEqual(least_beat(SMALL, (0, 0, 23), (4,) * 24)[0], 5)

    def test_arguments_by_name(self):
        self.assertEqual(least_beat(windows=[4, 0], plan=[0, 0, 1], line=SMALL)[0], 5)

    def test_arguments_are_not_changed_and_later_changes_have_no_effect(self):
        plan, windows = [0, 0, 1], [4, 0]
        value = least_beat(SMALL, plan, windows)
        self.assertEqual((plan, windows), ([0, 0, 1], [4, 0]))
        plan[0], windows[0] = 1, 0
        self.assertEqual(value, least_beat(SMALL, (0, 0, 1), (4, 0)))


if __name__ == "__main__":
    unittest.main()
