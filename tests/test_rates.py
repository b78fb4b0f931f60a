"""Points 42 to 46, and guarantees 9 and 10: rate and rate_holds."""

import itertools
import math
import unittest
from fractions import Fraction

from anyrowline import rates
from anyrowline.flow import departures
from anyrowline.lines import Line, free_line, with_slips
from anyrowline.rates import rate, rate_holds
from flows import (WRONG_RUNS, WRONG_STATIONS, arcs_of, do_hold, is_rate, is_slow, measure, random_flow,
                   rate_by_trial, take)
from trials import HUGE, ODD_VALUES, SMALL, Trial, changed_parts, deep, listed, parts_in, random_line, replaced, some

# At the three stations model 0 takes 2, 5 and 1, model 1 takes 4, 0 and 3.
LINE = free_line(((2, 9), (4, 4), (5, 8), (1, 1), (3, 5)), (), ((0, 2, 3), (1, 4), ()))
PLAN = (0, 0, 1, 2, 2)
WRONG_PLACES = [(), [], (0,), (0, 0, 0), (0, 21), (-1, 0), (0, None), (True, 0), ("0", 0), ((0, 0),), (0, HUGE),
                *[value for value in ODD_VALUES if value != (0, 0)]]


class Rates(Trial):
    def assert_rate(self, line, plan, places, run):
        """What rate returns is as told, by the test's own graph; returns the fraction."""
        value = rate(line, plan, places, run)
        self.assert_plain(value)
        self.assertEqual(value, rate(line, list(plan), list(places), list(run)))
        (top, bottom), circuit, potentials = value
        self.assertEqual((type(top), type(bottom)), (int, int))
        self.assertGreater(bottom, 0)
        self.assertEqual(math.gcd(top, bottom), 1)
        arcs = arcs_of(line, plan, places, run)
        weight, turns = measure(arcs, circuit)
        self.assertEqual(Fraction(weight, turns), Fraction(top, bottom))
        nodes = [step[:2] for step in circuit]
        self.assertEqual(len(set(nodes)), len(nodes))
        self.assertTrue(do_hold(arcs, max(plan) + 1, len(run), top, bottom, potentials))
        self.assertEqual(min(min(column) for column in potentials), 0)
        self.assertIs(rate_holds(line, plan, places, run, *value), True)
        self.assertIs(rate_holds(line, list(plan), list(places), list(run), *[listed(part) for part in value]), True)
        return top, bottom


class OneLine(Rates):
    def test_one_station(self):
        self.assertEqual(self.assert_rate(LINE, (0,) * 5, (), (0,)), (8, 1))
        self.assertEqual(self.assert_rate(LINE, (0,) * 5, (), (0, 1)), (15, 1))
        self.assertEqual(self.assert_rate(LINE, (0,) * 5, (), (2,)), (0, 1))
        self.assertEqual(rate(LINE, (0,) * 5, (), (0,)), ((8, 1), ((0, 0, "same"),), ((0,),)))

    def test_a_run_of_one_model(self):
        # The slowest station is 5; no places make it worse, for each piece takes as long as another one.
        for places in ((0, 0), (1, 0), (20, 20)):
            self.assertEqual(self.assert_rate(LINE, PLAN, places, (0,)), (5, 1))
            self.assertEqual(self.assert_rate(LINE, PLAN, places, (1,)), (4, 1))
            self.assertEqual(self.assert_rate(LINE, PLAN, places, (2,)), (0, 1))

    def test_stations_that_hold_each_other_up(self):
        # Alone each station takes 6 for both models; without a place they wait for each other.
        line = free_line(((5, 5), (1, 1), (5, 5), (1, 1)), (), ((0, 2), (1, 3)))
        self.assertEqual(self.assert_rate(line, (0, 0, 1, 1), (0,), (0, 1)), (10, 1))
        self.assertEqual(self.assert_rate(line, (0, 0, 1, 1), (1,), (0, 1)), (6, 1))
        self.assertEqual(self.assert_rate(line, (0, 0, 1, 1), (0,), (0, 1, 0, 1)), (20, 1))
        self.assertEqual(self.assert_rate(line, (0, 0, 1, 1), (0,), (0, 0, 1, 1)), (16, 1))
        self.assertEqual(self.assert_rate(line, (0, 0, 1, 1), (1,), (0, 0, 1, 1)), (15, 1))
        self.assertEqual(self.assert_rate(line, (0, 0, 1, 1), (2,), (0, 0, 1, 1)), (12, 1))

    def test_stations_without_tasks(self):
        self.assertEqual(self.assert_rate(LINE, (3,) * 5, (0, 0, 0), (2, 2)), (0, 1))
        self.assertEqual(self.assert_rate(LINE, (3,) * 5, (0, 0, 0), (0, 1)), (15, 1))
        self.assertEqual(self.assert_rate(free_line(((0, 9),), (), ((0,),)), (23,), (0,) * 23, (0,) * 12), (0, 1))

    def test_runs_doubled_and_turned(self):
        chosen = some(101)
        for _ in range(60):
            line = random_line(chosen, tasks=8)
            plan, places, run = random_flow(chosen, line, length=6)
            value = Fraction(*self.assert_rate(line, plan, places, run))
            self.assertEqual(Fraction(*self.assert_rate(line, plan, places, run * 2)), 2 * value)
            for at in range(len(run)):
                self.assertEqual(Fraction(*self.assert_rate(line, plan, places, run[at:] + run[:at])), value)

    def test_neither_order_nor_slips_count(self):
        for line in (with_slips(LINE, 8), with_slips(LINE, None),
                     Line(LINE.tasks, ((4, 0), (2, 1)), LINE.models, (((0, 0),),), 0)):
            self.assertEqual(rate(line, PLAN, (0, 0), (0, 1)), rate(LINE, PLAN, (0, 0), (0, 1)))

    def test_the_greatest_values(self):
        line = free_line(((10000, 10000),) * 24, (), (tuple(range(24)), ()))
        self.assertEqual(self.assert_rate(line, (0,) * 24, (), (0,) * 12), (2880000, 1))
        self.assertEqual(self.assert_rate(line, tuple(range(24)), (0,) * 23, (0,) * 12), (120000, 1))
        self.assertEqual(self.assert_rate(line, tuple(range(24)), (20,) * 23, (0,) * 12), (120000, 1))
        self.assertEqual(self.assert_rate(line, tuple(range(24)), (20,) * 23, (0,)), (10000, 1))
        # One slow piece goes through all stations, and the next one comes when there is a way behind it.
        self.assertEqual(self.assert_rate(line, tuple(range(24)), (11,) * 23, (0,) + (1,) * 11), (10000, 1))
        self.assertGreater(self.assert_rate(line, tuple(range(24)), (0,) * 23, (0,) + (1,) * 11)[0], 100000)


class SomeLines(Rates):
    def test_against_all_circuits(self):
        chosen = some(102)
        for _ in range(150):
            line = random_line(chosen, tasks=6)
            plan, places, run = random_flow(chosen, line, stations=3, length=3)
            self.assertEqual(Fraction(*self.assert_rate(line, plan, places, run)),
                             rate_by_trial(line, plan, places, run))

    def test_larger_graphs_and_the_departures(self):
        chosen = some(103)
        for _ in range(120):
            line = random_line(chosen, tasks=9, high=30)
            plan, places, run = random_flow(chosen, line, stations=6, length=8)
            value = Fraction(*self.assert_rate(line, plan, places, run))
            self.assertFalse(is_slow(line, plan, places, run, value))
            self.assertTrue(is_slow(line, plan, places, run, value - Fraction(1, 10 ** 6)))

    def test_point_46(self):
        chosen = some(104)
        for _ in range(80):
            line = random_line(chosen, tasks=9, high=30)
            plan, places, run = random_flow(chosen, line, stations=5, length=6)
            (top, bottom), circuit, held = rate(line, plan, places, run)
            n, stations = len(run), range(max(plan) + 1)
            table = departures(line, plan, places, run, 200)
            greatest = max(take(line, plan, run, s, j) for s in stations for j in range(n))
            for s, j in itertools.product(stations, range(n)):
                for r in range((200 - j - 1) // n + 1):
                    self.assertLessEqual(table[j + n * r][s] * bottom, top * r + held[s][j] + bottom * greatest)
            weight, turns = measure(arcs_of(line, plan, places, run), circuit)
            for s, j, _ in circuit:
                for r in range((200 - j - 1) // n + 1 - turns):
                    self.assertGreaterEqual(table[j + n * (r + turns)][s], table[j + n * r][s] + weight)

    def test_the_long_run(self):
        chosen = some(105)
        for _ in range(60):
            line = random_line(chosen, tasks=6, high=9)
            plan, places, run = random_flow(chosen, line, stations=3, length=3)
            (top, bottom), circuit, _ = rate(line, plan, places, run)
            table = departures(line, plan, places, run, 200)
            # Behind some repetitions, as many as the circuit has turns take just its weight.
            weight, turns = measure(arcs_of(line, plan, places, run), circuit)
            s, j, _ = circuit[0]
            last = (200 - j - 1) // len(run)
            self.assertEqual(table[j + len(run) * last][s] - table[j + len(run) * (last - turns)][s], weight)

    def test_more_places_are_never_slower(self):
        chosen = some(106)
        for _ in range(60):
            line = random_line(chosen, tasks=8)
            plan, places, run = random_flow(chosen, line, length=5)
            value = Fraction(*rate(line, plan, places, run)[0])
            for at in range(len(places)):
                more = places[:at] + (places[at] + 1,) + places[at + 1:]
                self.assertLessEqual(Fraction(*rate(line, plan, more, run)[0]), value)
            enough = tuple(max(place, len(run) - 1) for place in places)
            loads = [sum(take(line, plan, run, s, j) for j in range(len(run))) for s in range(max(plan) + 1)]
            self.assertEqual(self.assert_rate(line, plan, enough, run), (max(loads), 1))


class Holds(Rates):
    # Each station takes 6 for both models, and the rate is 10.
    LINE = free_line(((5, 5), (1, 1), (5, 5), (1, 1)), (), ((0, 2), (1, 3)))
    PLAN = (0, 0, 1, 1)

    def assert_told(self, is_held, value, circuit, potentials, line=LINE, plan=PLAN, places=(0,), run=(0, 1)):
        """rate_holds tells so, as a second way does."""
        self.assertIs(is_rate(line, plan, places, run, value, circuit, potentials), is_held)
        self.assertIs(rate_holds(line, plan, places, run, value, circuit, potentials), is_held)

    def test_circuits_that_come_to_a_node_twice(self):
        value, circuit, held = rate(self.LINE, self.PLAN, (0,), (0, 1))
        for many in (1, 2, 3, 50):
            self.assert_told(True, value, circuit * many, held)
            self.assert_told(True, value, [list(step) for step in circuit] * many, held)
        for at in range(len(circuit)):
            self.assert_told(True, value, circuit[at:] + circuit[:at], held)

    def test_the_circuit_has_the_fraction_exactly(self):
        value, circuit, held = rate(self.LINE, self.PLAN, (0,), (0, 1))
        slow = ((0, 0, "same"), (0, 1, "same"))
        self.assert_told(False, value, slow, held)
        self.assert_told(False, (6, 1), slow, held)
        self.assert_told(False, (6, 1), circuit, held)
        self.assert_told(False, (11, 1), circuit, held)
        # With a fraction above the rate potentials hold, but there is no such circuit.
        higher = rate(free_line(((11, 11),), (), ((0,),)), (0,), (), (0,))[2]
        self.assert_told(False, (11, 1), circuit, ((0, 5), (5, 10)))
        self.assert_told(False, (11, 1), circuit, higher)

    def test_fractions(self):
        value, circuit, held = rate(self.LINE, self.PLAN, (0,), (0, 1))
        self.assertEqual(value, (10, 1))
        doubled = tuple(tuple(2 * number for number in column) for column in held)
        self.assert_told(True, [10, 1], circuit, held)
        for wrong in ((20, 2), (30, 3), (-10, -1), (10, 0), (0, 0), (10, -1), (-10, 1), (10, 1, 1), (10,), (), 10,
                      None, (10, True), ("10", 1), (10, None), ((10, 1),), "", (HUGE, 1), (10, HUGE), (1, 0), SMALL):
            self.assert_told(False, wrong, circuit, held)
            self.assert_told(False, wrong, circuit, doubled)

    def test_a_rate_of_0(self):
        nothing = {"line": LINE, "plan": PLAN, "places": (0, 0), "run": (2,)}
        circuit, held = ((0, 0, "same"),), ((0,), (0,), (0,))
        self.assert_told(True, (0, 1), circuit, held, **nothing)
        self.assert_told(True, (0, 1), ((2, 0, "same"),), held, **nothing)
        self.assert_told(True, (0, 1), ((0, 0, "next"), (1, 0, "back")), held, **nothing)
        for wrong in ((0, 2), (0, -1), (0, 0), (False, 1), (0, True), (1, 1)):
            self.assert_told(False, wrong, circuit, held, **nothing)

    def test_arcs_from_a_node_to_itself(self):
        one = {"line": LINE, "plan": PLAN, "places": (0, 1), "run": (0,)}
        (top, bottom), circuit, held = rate(LINE, PLAN, (0, 1), (0,))
        self.assertEqual((top, bottom), (5, 1))
        self.assert_told(True, (5, 1), ((1, 0, "same"),), held, **one)
        self.assert_told(True, (5, 1), ((1, 0, "same"),) * 3, held, **one)
        self.assert_told(False, (5, 1), ((0, 0, "same"),), held, **one)
        self.assert_told(False, (5, 1), ((1, 0, "next"),), held, **one)
        self.assert_told(True, (5, 1), ((0, 0, "next"), (1, 0, "back")), held, **one)
        self.assert_told(False, (5, 1), ((1, 0, "next"), (2, 0, "back")), held, **one)

    def test_there_is_no_station_below_0_and_no_fraction_with_two_minus_signs(self):
        one = {"line": LINE, "plan": (0,) * 5, "places": (), "run": (0,)}
        self.assert_told(True, (8, 1), ((0, 0, "same"),), ((0,),), **one)
        self.assert_told(False, (-8, -1), ((0, 0, "same"),), ((0,),), **one)
        self.assert_told(False, (8, 1), ((-1, 0, "same"),), ((0,),), **one)
        self.assert_told(False, (8, 1), ((0, -1, "same"),), ((0,),), **one)
        self.assert_told(False, (8, 1), ((1, 0, "same"),), ((0,),), **one)
        self.assert_told(False, (8, 1), ((0, 1, "same"),), ((0,),), **one)

    def test_all_steps_of_a_small_graph(self):
        kinds = ("next", "same", "back", "Next", "", None)
        for circuit in itertools.product(itertools.product(range(-1, 3), range(-1, 3), kinds), repeat=2):
            measured = measure(arcs_of(self.LINE, self.PLAN, (0,), (0, 1)), circuit)
            is_held = measured is not None and measured[0] == 10 * measured[1]
            held = ((0, 1), (1, 5))
            self.assertIs(rate_holds(self.LINE, self.PLAN, (0,), (0, 1), (10, 1), circuit, held),
                          is_held and do_hold(arcs_of(self.LINE, self.PLAN, (0,), (0, 1)), 2, 2, 10, 1, held))

    def test_potentials_each_arc(self):
        value, circuit, held = rate(self.LINE, self.PLAN, (0,), (0, 1))
        found = {True: 0, False: 0}
        for first, second, third in itertools.product(range(-6, 7), repeat=3):
            other = ((held[0][0], held[0][1] + first), (held[1][0] + second, held[1][1] + third))
            is_held = do_hold(arcs_of(self.LINE, self.PLAN, (0,), (0, 1)), 2, 2, 10, 1, other)
            found[is_held] += 1
            self.assert_told(is_held, value, circuit, other)
        self.assertGreater(min(found.values()), 4)

    def test_bounds_of_potentials(self):
        value, circuit, held = rate(self.LINE, self.PLAN, (0,), (0, 1))
        high = max(max(column) for column in held)
        for more, is_held in ((10 ** 12 - high, True), (10 ** 12 - high + 1, False), (-10 ** 12, True),
                              (-10 ** 12 - 1, False), (HUGE, False), (-HUGE, False), (7, True), (-7, True)):
            other = tuple(tuple(number + more for number in column) for column in held)
            self.assert_told(is_held, value, circuit, other)

    def test_too_few_or_too_many_potentials(self):
        value, circuit, held = rate(self.LINE, self.PLAN, (0,), (0, 1))
        self.assert_told(True, value, circuit, listed(held))
        for other in (held[:1], held + held[1:], (held[0], held[1][:1]), (held[0] + (99,), held[1]), (held,), (),
                      (held[0], None), (held[0], (held[1][0], None)), (held[0], (held[1][0], True)), held[0],
                      (held[0], "00"), (held[0], (held[1][0], "0")), *ODD_VALUES):
            self.assert_told(False, value, circuit, other)

    def test_circuits_of_no_form(self):
        value, circuit, held = rate(self.LINE, self.PLAN, (0,), (0, 1))
        for other in ((), None, circuit[:-1], circuit[1:], circuit[::-1], circuit + circuit[:1], (circuit,), circuit[0],
                      circuit[:1], tuple(step + (0,) for step in circuit), tuple(step[:2] for step in circuit),
                      deep(40), *ODD_VALUES):
            self.assert_told(False, value, other, held)
            self.assert_told(False, (0, 1), other, held)

    def test_booleans_are_no_integers(self):
        value, circuit, held = rate(self.LINE, self.PLAN, (0,), (0, 1))
        for at, (s, j, kind) in enumerate(circuit):
            for step in ((bool(s), j, kind), (s, bool(j), kind)):
                self.assert_told(False, value, circuit[:at] + (step,) + circuit[at + 1:], held)
        self.assert_told(False, (10, True), circuit, held)

    def test_one_thing_is_changed(self):
        chosen = some(107)
        found = {True: 0, False: 0}
        for _ in range(60):
            line = random_line(chosen, tasks=8)
            plan, places, run = random_flow(chosen, line, length=4)
            value = rate(line, plan, places, run)
            parts = parts_in(value)[1:]
            for where, part in chosen.sample(parts, min(len(parts), 30)):
                other = replaced(value, where, chosen.choice(changed_parts(chosen, part)))
                is_held = is_rate(line, plan, places, run, *other)
                found[is_held] += 1
                self.assertIs(rate_holds(line, plan, places, run, *other), is_held)
        self.assertGreater(min(found.values()), 50)

    def test_values_of_any_kind(self):
        value, circuit, held = rate(self.LINE, self.PLAN, (0,), (0, 1))
        for other in (*ODD_VALUES, HUGE, 10, (circuit, held), deep(30), ("a",) * 50000, SMALL, rate):
            if other is not rate:
                self.assert_told(False, other, circuit, held)
                self.assert_told(False, value, other, held)
                self.assert_told(False, value, circuit, other)
                self.assertIs(rate_holds(self.LINE, self.PLAN, (0,), (0, 1), other, other, other), False)


class Errors(Trial):
    def test_errors(self):
        fine = {1: SMALL, 2: (0, 1, 2), 3: (0, 0), 4: (0, 1)}
        wrong = {2: WRONG_STATIONS, 3: WRONG_PLACES, 4: WRONG_RUNS}
        self.assert_errors(rate, fine, wrong)
        self.assert_errors(rate_holds, {**fine, 5: None, 6: None, 7: None}, wrong)

    def test_as_many_places_as_stations_but_one(self):
        for stations in (1, 2, 3, 24):
            plan = (0, stations - 1, 0)
            for many in (0, 1, 2, 3, 22, 23, 24):
                if many == stations - 1:
                    self.assertEqual(len(rate(SMALL, plan, (0,) * many, (0,))[2]), stations)
                    self.assertIs(rate_holds(SMALL, plan, (0,) * many, (0,), None, None, None), False)
                else:
                    self.assert_bad(3, rate, SMALL, plan, (0,) * many, (0,))
                    self.assert_bad(3, rate_holds, SMALL, plan, (0,) * many, (0,), None, None, None)

    def test_bounds(self):
        line = Line(((1, 1),), (), ((0,),) * 8, (((0, 0),),), 0)
        self.assertEqual(rate(line, (23,), (20,) * 23, (7,) * 12)[0], (12, 1))
        self.assert_bad(4, rate, line, (23,), (20,) * 23, (7,) * 13)
        self.assert_bad(4, rate, line, (23,), (20,) * 23, (8,))
        self.assert_bad(3, rate, line, (23,), (20,) * 22 + (21,), (7,))

    def test_arguments_by_name(self):
        value, circuit, held = rate(run=[0, 1], places=[0], plan=[0, 0, 1], line=SMALL)
        self.assertIs(rate_holds(potentials=held, circuit=circuit, value=value, run=[0, 1], places=[0],
                                 plan=[0, 0, 1], line=SMALL), True)

    def test_what_is_given_stays_and_later_changes_have_no_effect(self):
        plan, places, run = [0, 0, 1], [0], [0, 1]
        value = rate(SMALL, plan, places, run)
        given = listed(value)
        self.assertIs(rate_holds(SMALL, plan, places, run, *given), True)
        self.assertEqual((plan, places, run, given), ([0, 0, 1], [0], [0, 1], listed(value)))
        plan[0], places[0], run[0] = 1, 5, 1
        self.assertEqual(value, rate(SMALL, (0, 0, 1), (0,), (0, 1)))

    def test_they_stand_in_their_file(self):
        self.assertEqual(rates.rate.__module__, "anyrowline.rates")
        self.assertEqual(rates.rate_holds.__module__, "anyrowline.rates")


if __name__ == "__main__":
    unittest.main()
