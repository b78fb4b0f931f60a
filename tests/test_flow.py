"""Points 40 and 41, and guarantee 12: departures."""

import unittest

from anyrowline import flow
from anyrowline.flow import departures
from anyrowline.lines import Line, free_line, with_slips, with_times
from flows import WRONG_NUMBERS, WRONG_RUNS, WRONG_STATIONS, departures_by_rule, random_flow, take
from trials import HUGE, ODD_VALUES, SMALL, Trial, random_line, some

# At the three stations model 0 takes 2, 5 and 1, model 1 takes 4, 0 and 3.
LINE = free_line(((2, 9), (4, 4), (5, 8), (1, 1), (3, 5)), (), ((0, 2, 3), (1, 4), ()))
PLAN = (0, 0, 1, 2, 2)
WRONG_PLACES = [(), [], (0,), (0, 0, 0), (0, 21), (-1, 0), (0, None), (True, 0), ("0", 0), ((0, 0),), (0, HUGE),
                *[value for value in ODD_VALUES if value != (0, 0)]]


class Departures(Trial):
    def assert_all(self, line, plan, places, run, pieces):
        """What departures returns is the whole table of a second way; returns it."""
        table = departures(line, plan, places, run, pieces)
        self.assert_plain(table)
        self.assertEqual(table, departures_by_rule(line, plan, places, run, pieces))
        self.assertEqual(table, departures(line, list(plan), list(places), list(run), pieces))
        return table


class OneLine(Departures):
    def test_one_piece(self):
        self.assertEqual(self.assert_all(LINE, PLAN, (0, 0), (0,), 1), ((2, 7, 8),))
        self.assertEqual(self.assert_all(LINE, PLAN, (20, 20), (1,), 1), ((4, 4, 7),))
        self.assertEqual(self.assert_all(LINE, PLAN, (0, 0), (2,), 1), ((0, 0, 0),))

    def test_a_piece_waits_until_there_is_a_place(self):
        # Without a place the second piece leaves station 0 when the first one has left station 1.
        self.assertEqual(self.assert_all(LINE, PLAN, (0, 0), (0,), 3), ((2, 7, 8), (7, 12, 13), (12, 17, 18)))
        self.assertEqual(self.assert_all(LINE, PLAN, (1, 0), (0,), 4),
                         ((2, 7, 8), (4, 12, 13), (7, 17, 18), (12, 22, 23)))
        self.assertEqual(self.assert_all(LINE, PLAN, (2, 0), (0,), 4),
                         ((2, 7, 8), (4, 12, 13), (6, 17, 18), (8, 22, 23)))
        self.assertEqual(self.assert_all(LINE, PLAN, (20, 0), (0,), 2), ((2, 7, 8), (4, 12, 13)))

    def test_a_piece_is_held_up_ahead_of_a_slow_station(self):
        line = free_line(((1, 1), (1, 1), (10, 10)), (), ((0, 1, 2),))
        self.assertEqual(self.assert_all(line, (0, 1, 2), (0, 0), (0,), 4),
                         ((1, 2, 12), (2, 12, 22), (12, 22, 32), (22, 32, 42)))
        self.assertEqual(self.assert_all(line, (0, 1, 2), (0, 1), (0,), 4),
                         ((1, 2, 12), (2, 3, 22), (3, 12, 32), (12, 22, 42)))
        self.assertEqual(self.assert_all(line, (0, 1, 2), (1, 0), (0,), 4),
                         ((1, 2, 12), (2, 12, 22), (3, 22, 32), (12, 32, 42)))

    def test_the_run_is_repeated(self):
        table = self.assert_all(LINE, PLAN, (0, 0), (0, 1), 5)
        self.assertEqual(table, ((2, 7, 8), (7, 8, 11), (9, 14, 15), (14, 15, 18), (16, 21, 22)))
        self.assertEqual(table, departures(LINE, PLAN, (0, 0), (0, 1, 0, 1), 5))
        self.assertNotEqual(table, self.assert_all(LINE, PLAN, (0, 0), (1, 0), 5))

    def test_one_station(self):
        self.assertEqual(self.assert_all(LINE, (0,) * 5, (), (0, 1), 4), ((8,), (15,), (23,), (30,)))

    def test_stations_without_tasks(self):
        self.assertEqual(self.assert_all(LINE, (3,) * 5, (0, 0, 0), (0, 1), 3),
                         ((0, 0, 0, 8), (0, 0, 8, 15), (0, 8, 15, 23)))
        self.assertEqual(self.assert_all(LINE, (3,) * 5, (0, 1, 0), (1,), 4),
                         ((0, 0, 0, 7), (0, 0, 7, 14), (0, 0, 14, 21), (0, 7, 21, 28)))

    def test_plans_that_do_not_fit_the_order(self):
        line = free_line(((2, 2), (3, 3)), ((0, 1),), ((0, 1),))
        self.assertEqual(self.assert_all(line, (1, 0), (0,), (0,), 2), ((3, 5), (6, 8)))
        self.assertEqual(self.assert_all(line, (23, 0), (0,) * 23, (0,), 1), ((3,) * 23 + (5,),))

    def test_usual_times_count_whatever_the_slips(self):
        for slips in (None, 0, 8):
            self.assertEqual(departures(with_slips(LINE, slips), PLAN, (0, 0), (0,), 1), ((2, 7, 8),))

    def test_the_greatest(self):
        line = free_line(((10000, 10000),) * 24, (), (tuple(range(24)), ()))
        table = self.assert_all(line, tuple(range(24)), (0,) * 23, (0,) * 12, 200)
        self.assertEqual((len(table), table[0][23], table[199][23]), (200, 240000, 2230000))
        self.assert_all(line, tuple(range(24)), (20,) * 23, (0,) * 6 + (1,) * 6, 200)
        self.assertEqual(self.assert_all(line, (0,) * 24, (), (0,), 200)[199], (48000000,))


class SomeLines(Departures):
    def test_against_a_second_way(self):
        chosen = some(80)
        for _ in range(300):
            line = random_line(chosen, tasks=8)
            plan, places, run = random_flow(chosen, line, stations=chosen.choice((1, 2, 4, 8, 24)), length=12)
            self.assert_all(line, plan, places, run, chosen.choice((1, 2, 5, 20, 60)))

    def test_each_rule_is_kept_and_one_of_them_tight(self):
        chosen = some(81)
        for _ in range(60):
            line = random_line(chosen, tasks=6)
            plan, places, run = random_flow(chosen, line)
            table = departures(line, plan, places, run, 20)
            for piece, row in enumerate(table):
                for station, time in enumerate(row):
                    work = take(line, plan, run, station, piece)
                    least = [work]
                    if station > 0:
                        least.append(row[station - 1] + work)
                    if piece > 0:
                        least.append(table[piece - 1][station] + work)
                    if station < max(plan) and piece > places[station]:
                        least.append(table[piece - places[station] - 1][station + 1])
                    self.assertEqual(time, max(least))

    def test_more_places_or_less_work_are_never_later(self):
        chosen = some(82)
        for _ in range(100):
            line = random_line(chosen, tasks=6)
            plan, places, run = random_flow(chosen, line)
            table = departures(line, plan, places, run, 30)
            at = chosen.randrange(len(places) + 1)
            more = places[:at] + tuple(place + 1 for place in places[at:at + 1]) + places[at + 1:]
            less = with_times(line, [(max(0, usual - chosen.randint(0, 2)), upper) for usual, upper in line.tasks])
            for other in (departures(line, plan, more, run, 30), departures(less, plan, places, run, 30)):
                for row, before in zip(other, table):
                    self.assertTrue(all(now <= then for now, then in zip(row, before)))

    def test_fewer_pieces_are_the_beginning(self):
        chosen = some(83)
        for _ in range(30):
            line = random_line(chosen, tasks=6)
            plan, places, run = random_flow(chosen, line)
            self.assertEqual(departures(line, plan, places, run, 40)[:13], departures(line, plan, places, run, 13))


class Errors(Trial):
    def test_errors(self):
        fine = {1: SMALL, 2: (0, 1, 2), 3: (0, 0), 4: (0, 1), 5: 5}
        self.assert_errors(departures, fine, {2: WRONG_STATIONS, 3: WRONG_PLACES, 4: WRONG_RUNS,
                                              5: [0, 201, 1000, *[value for value in WRONG_NUMBERS]]})

    def test_as_many_places_as_stations_but_one(self):
        for stations in (1, 2, 3, 24):
            plan = (0, stations - 1, 0)
            for many in (0, 1, 2, 3, 22, 23, 24, 25):
                if many == stations - 1:
                    self.assertEqual(len(departures(SMALL, plan, (0,) * many, (0,), 1)[0]), stations)
                else:
                    self.assert_bad(3, departures, SMALL, plan, (0,) * many, (0,), 1)

    def test_bounds(self):
        line = Line(((1, 1),), (), ((0,),) * 8, (((0, 0),),), 0)
        self.assertEqual(len(departures(line, (0,), (), tuple(range(8)) + (7,) * 4, 200)), 200)
        self.assert_bad(4, departures, line, (0,), (), (8,), 200)
        self.assertEqual(departures(line, (1,), (20,), (7,), 1), ((0, 1),))
        self.assertEqual(len(departures(line, (23,), (20,) * 23, (7,), 1)[0]), 24)

    def test_arguments_by_name(self):
        self.assertEqual(departures(pieces=1, run=[0], places=[0], plan=[0, 0, 1], line=SMALL), ((6, 9),))

    def test_what_is_given_stays(self):
        plan, places, run = [0, 0, 1], [0], [0, 1]
        table = departures(SMALL, plan, places, run, 9)
        self.assertEqual((plan, places, run), ([0, 0, 1], [0], [0, 1]))
        plan[0], places[0], run[0] = 1, 5, 1
        self.assertEqual(table, departures(SMALL, (0, 0, 1), (0,), (0, 1), 9))

    def test_it_stands_in_its_file(self):
        self.assertEqual(flow.departures.__module__, "anyrowline.flow")


if __name__ == "__main__":
    unittest.main()
