"""Point 17 and all others with lines as large as they may be, and how long the calls take."""

import itertools
import time
import unittest

from anyrowline.checking import bounds_hold, loop_gains, row_overflows
from anyrowline.choices import best_beat, best_plan, fewest_stations
from anyrowline.errors import BadState, BadValue, RowError, TooMany
from anyrowline.lines import Line, free_line, with_slips
from anyrowline.rows import is_row, lateness
from anyrowline.safety import keeps, least_beat, safe
from trials import Trial, does_overflow, is_allowed, is_gaining, random_row, some, told

PAIRS = tuple(itertools.islice(itertools.combinations(range(24), 2), 200))
# A call should take seconds; what is asked for here leaves room for slow machines.
SECONDS = 45


def great_tasks(chosen):
    """24 tasks with times up to 10,000."""
    return [tuple(sorted((chosen.randint(0, 10000), chosen.randint(0, 10000)))) for _ in range(24)]


def great_line(chosen, slips, is_chain=False):
    """24 tasks, 200 pairs, 8 models, 60 states with 40 arcs each.

    In a chain the states are reached one behind the other.
    """
    models = [tuple(task for task in range(24) if chosen.random() < 0.6) for _ in range(8)]
    states = []
    for state in range(60):
        ahead = [(model, to) for model in range(8) for to in range(state + 1 if is_chain else 60)]
        chosen.shuffle(ahead)
        first = [(model, (state + 1) % 60) for model in range(8)]
        arcs = [first[state % 8]] + [arc for arc in ahead if arc not in first] + first
        states.append(list(dict.fromkeys(arcs))[:40])
    # The first states of a chain have too few arcs backward.
    for at, arcs in enumerate(states):
        more = [(model, to) for to in range(60) for model in range(8) if (model, to) not in arcs]
        arcs += more[:40 - len(arcs)] if not is_chain else []
    return Line(great_tasks(chosen), PAIRS, models, states, 0, slips=slips)


class Greatest(Trial):
    def timed(self, function, *arguments):
        """What the function returns, if it does so in time."""
        begin = time.process_time()
        value = function(*arguments)
        self.assertLess(time.process_time() - begin, SECONDS, function.__name__)
        return value

    def assert_told(self, line, plan, station, window, beat):
        """What safe returns is in time and holds; returns it."""
        word, what = self.timed(safe, line, plan, station, window, beat)
        self.assert_plain(what)
        if word == "bounds":
            self.assertIs(self.timed(bounds_hold, line, plan, station, window, beat, what), True)
        elif word == "row":
            self.assertLessEqual(len(what), 1100)
            self.assertTrue(is_allowed(line, what))
            self.assertTrue(does_overflow(line, plan, station, window, beat, what))
            self.assertIs(row_overflows(line, plan, station, window, beat, what), True)
        else:
            self.assertLessEqual(max(len(what[0]), len(what[1])), 60)
            self.assertTrue(is_gaining(line, plan, station, beat, what))
            self.assertIs(loop_gains(line, plan, station, beat, what), True)
        return word, what


class TheLine(Greatest):
    def parts(self):
        line = great_line(some(17), 8)
        return [line.tasks, line.order, line.models, line.states, 59, 8]

    def made(self, at=None, value=None):
        parts = self.parts()
        if at is not None:
            parts[at] = value
        return Line(*parts[:5], slips=parts[5])

    def test_it_is_as_large_as_it_may_be(self):
        line = self.made()
        sizes = (len(line.tasks), len(line.order), len(line.models), len(line.states), line.slips)
        self.assertEqual(sizes, (24, 200, 8, 60, 8))
        self.assertEqual([len(arcs) for arcs in line.states], [40] * 60)

    def test_each_number_one_beyond_is_refused(self):
        tasks, order, models, states, start, slips = self.parts()
        more_pairs = tuple(itertools.islice(itertools.combinations(range(24), 2), 201))
        state = [(model, to) for model in range(8) for to in range(60)][:41]
        for at, value, error, told_by in ((0, tasks + ((1, 1),), TooMany, "tasks"), (1, more_pairs, TooMany, "pairs"),
                                          (2, models + ((0,),), TooMany, "models"),
                                          (3, states + states[:1], TooMany, "states"),
                                          (3, states[:59] + (state,), BadState, 59), (4, 60, BadValue, 5),
                                          (5, 9, BadValue, 6)):
            with self.subTest(at=at, error=error):
                with self.assertRaises(RowError) as caught:
                    self.made(at, value)
                self.assertIs(type(caught.exception), error)
                kept = caught.exception.word if error is TooMany else caught.exception.at
                self.assertEqual(kept, told_by)

    def test_rows_of_20000_pieces(self):
        line = self.made()
        row = [(arc, ()) for arc, _ in random_row(some(18), line, 20000)]
        self.assertIs(self.timed(is_row, line, row), True)
        late = self.timed(lateness, line, tuple(range(24)), 5, 3000, row)
        self.assertEqual(len(late), 20000)
        self.assertIs(self.timed(is_row, line, row + [(40, ())]), False)

    def test_every_function_takes_it(self):
        line = self.made()
        plan = tuple(range(24))
        beat, bounds, (station, (word, what)) = self.timed(least_beat, line, plan, (3000,) * 24)
        self.assertEqual(len(bounds), 24)
        for at, held in enumerate(bounds):
            self.assertIs(bounds_hold(line, plan, at, 3000, beat, held), True)
        self.assertIs(self.timed(keeps, line, plan, (3000,) * 24, beat), True)
        self.assertIs(self.timed(keeps, line, plan, (3000,) * 24, beat - 1), False)
        for function, more in ((best_plan, (beat,)), (best_beat, ()), (fewest_stations, (beat,))):
            self.timed(function, line, (300000,), *more)


class Safe(Greatest):
    def test_all_slips_windows_and_beats(self):
        plan = (0,) * 24
        for slips, is_chain in itertools.product((None, 0, 8), (False, True)):
            line = great_line(some(60), slips, is_chain)
            endless = self.timed(least_beat, line, plan, (300000,))[0]
            for window, less in ((0, 0), (3000, 1), (30000, 0), (100000, 100), (300000, 0), (300000, 1),
                                 (300000, 1000)):
                with self.subTest(slips=slips, is_chain=is_chain, window=window, less=less):
                    self.assert_told(line, plan, 0, window, endless - less)

    def test_bounds_against_a_second_way(self):
        for slips in (None, 0, 8):
            line = great_line(some(61), slips, True)
            plan = tuple(task // 4 for task in range(24))
            beat = least_beat(line, plan, (20000,) * 6)[0]
            for station in (0, 5, 6):
                value = self.assert_told(line, plan, station, 20000, beat)
                self.assertEqual(value, told(line, plan, station, 20000, beat))

    def test_rows_against_a_second_way(self):
        line = great_line(some(62), 8, True)
        plan = (0,) * 24
        beat = least_beat(line, plan, (300000,))[0] - 1000
        for window in (40000, 60000, 70000, 80000):
            word, row = self.assert_told(line, plan, 0, window, beat)
            self.assertEqual((word, len(row)), told(line, plan, 0, window, beat, 60))

    def test_the_longest_rows(self):
        line = great_line(some(63), 8)
        plan = (0,) * 24
        beat = least_beat(line, plan, (300000,))[0] - 100
        lengths = []
        for window in range(100000, 300000, 20000):
            word, what = self.assert_told(line, plan, 0, window, beat)
            lengths.append(len(what) if word == "row" else None)
        self.assertIn(None, lengths)
        self.assertGreater(max(many for many in lengths if many), 800)

    def test_slips_that_come_one_in_a_round_of_60(self):
        # A slip is possible once in each round, so that 8 of them take 8 rounds; without a slip no piece is late.
        states = [[(1 if at == 30 else 0, (at + 1) % 60)] for at in range(60)]
        line = Line(((5, 5), (5, 8)), (), ((0,), (1,)), states, 0, slips=8)
        self.assertEqual(self.assert_told(line, (0, 0), 0, 24, 5)[0], "bounds")
        word, row = self.assert_told(line, (0, 0), 0, 23, 5)
        self.assertEqual((word, len(row)), ("row", 31 + 7 * 60))
        places = [at for at, (arc, slipped) in enumerate(row) if slipped]
        self.assertEqual(places, [30 + 60 * many for many in range(8)])
        bounds = self.assert_told(line, (0, 0), 0, 300000, 5)[1]
        self.assertEqual(bounds[31], (24, 21, 18, 15, 12, 9, 6, 3, 0))
        # Task 0 slips with no extra time, which takes slips from task 1.
        self.assertEqual(bounds[5], (24, 21, 18, 15, 12, 9, 6, 3, 0))

    def test_1080_pieces(self):
        # 60 states in a chain with a way back from the last one only, 8 slips of which each takes a round.
        states = [[(0, at + 1)] for at in range(59)] + [[(1, 0)]]
        line = Line(((5, 5), (5, 105)), (), ((0,), (1,)), states, 0, slips=8)
        word, row = self.assert_told(line, (0, 0), 0, 799, 5)
        self.assertEqual((word, len(row)), ("row", 480))
        self.assertEqual(self.assert_told(line, (0, 0), 0, 800, 5)[0], "bounds")

    def test_idle_stations(self):
        for slips in (None, 0, 8):
            line = great_line(some(64), slips)
            word, bounds = self.assert_told(line, (3,) * 24, 7, 0, 0)
            self.assertEqual((word, bounds), ("bounds", ((None,) * (slips or 0) + (0,),) * 60))


class LeastBeat(Greatest):
    def test_24_stations(self):
        plan = tuple(range(24))
        for slips in (None, 0, 8):
            line = great_line(some(65), slips)
            for windows in ((0,) * 24, (300,) * 24, (300000,) * 24, tuple(range(0, 24000, 1000))):
                with self.subTest(slips=slips, windows=windows):
                    beat, bounds, (station, (word, what)) = self.timed(least_beat, line, plan, windows)
                    for at, held in enumerate(bounds):
                        self.assertIs(bounds_hold(line, plan, at, windows[at], beat, held), True)
                    if word == "row":
                        self.assertTrue(does_overflow(line, plan, station, windows[station], beat - 1, what))
                    else:
                        self.assertTrue(is_gaining(line, plan, station, beat - 1, what))
                    self.assertIs(self.timed(keeps, line, plan, windows, beat - 1), False)

    def test_one_station(self):
        for slips, is_chain in itertools.product((None, 0, 8), (False, True)):
            line = great_line(some(66), slips, is_chain)
            for window in (0, 1000, 30000, 300000):
                beat, (bounds,), proof = self.timed(least_beat, line, (0,) * 24, (window,))
                self.assertIs(bounds_hold(line, (0,) * 24, 0, window, beat, bounds), True)


class Plans(Greatest):
    def assert_all_three(self, line, windows):
        """All three are in time; their trees hold."""
        beat, plan, tree = self.timed(best_beat, line, windows)
        self.assertIs(keeps(line, plan, windows, beat), True)
        if len(line.states) * len(repr(tree)) < 10 ** 7:
            self.assert_refutes(line, windows, beat - 1, tree)
        word, plan, bounds = self.timed(best_plan, line, windows, beat)
        self.assertEqual(word, "plan")
        self.assertEqual(self.timed(best_plan, line, windows, beat - 1), ("refutation", tree))
        self.assertIsNotNone(self.timed(fewest_stations, line, windows, beat)[0])
        self.assertEqual(self.timed(fewest_stations, line, windows, beat - 1), (None, None, tree))

    def test_many_plans_of_a_small_machine(self):
        chosen = some(67)
        for tasks, stations, slips in ((18, 2, 0), (17, 2, 1), (14, 2, 8), (11, 3, None), (9, 4, 0), (7, 5, 2),
                                       (6, 8, None), (4, 22, 0), (3, 24, 8), (1, 24, 8)):
            times = [tuple(sorted((chosen.randint(1, 10000), chosen.randint(1, 10000)))) for _ in range(tasks)]
            with self.subTest(tasks=tasks, stations=stations, slips=slips):
                line = free_line(times, (), (tuple(range(tasks)),), slips=slips)
                self.assert_all_three(line, tuple(chosen.randint(0, 9000) for _ in range(stations)))

    def test_equal_tasks(self):
        self.assert_all_three(free_line(((5000, 5000),) * 18, (), (tuple(range(18)),)), (0, 0))

    def test_many_plans_with_an_order(self):
        chosen = some(68)
        chain = tuple((task, task + 1) for task in range(17))
        forks = tuple((task // 2, task) for task in range(1, 18))
        for order in (chain, forks, PAIRS[:17], tuple((after, before) for before, after in forks)):
            times = [(chosen.randint(1, 10000),) * 2 for _ in range(18)]
            self.assert_all_three(free_line(times, order, (tuple(range(18)),)), (0, 3000))

    def test_great_machines(self):
        chosen = some(69)
        for tasks, stations, slips, is_ring in ((6, 2, 0, False), (3, 2, 8, False), (24, 1, 8, False),
                                                (12, 2, 0, True), (8, 2, 8, True), (12, 2, None, True),
                                                (2, 16, 0, True), (1, 24, 8, True)):
            models = [tuple(task for task in range(tasks) if chosen.random() < 0.7) for _ in range(8)]
            if is_ring:
                states = [[(chosen.randrange(8), (at + 1) % 60)] for at in range(60)]
            else:
                arcs = [(model, to) for model in range(8) for to in range(60)]
                states = [chosen.sample(arcs, 40) for _ in range(60)]
            line = Line(great_tasks(chosen)[:tasks], (), models, states, 0, slips=slips)
            with self.subTest(tasks=tasks, stations=stations, slips=slips, is_ring=is_ring):
                self.assert_all_three(line, tuple(chosen.randint(0, 20000) for _ in range(stations)))

    def test_slips_none_is_as_quick(self):
        line = with_slips(great_line(some(70), 0), None)
        self.assert_all_three(line, (1000,))


if __name__ == "__main__":
    unittest.main()
