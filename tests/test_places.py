"""Points 47 and 48, and guarantee 11: fewest_places and places_hold."""

import itertools
import math
import unittest
from fractions import Fraction

from anyrowline import places as module
from anyrowline.errors import RowError, TooMany
from anyrowline.lines import Line, free_line, with_slips
from anyrowline.places import fewest_places, places_hold
from anyrowline.rates import rate
from flows import (WRONG_RUNS, WRONG_STATIONS, all_places, arcs_of, do_hold, is_slow, measure, random_flow, take)
from trials import (HUGE, ODD_VALUES, SMALL, Trial, changed_parts, deep, is_list, is_number, listed, parts_in,
                    random_line, replaced, some)

# Each station takes 6 for both models; without a place between them the rate is 10.
PAIR = free_line(((5, 5), (1, 1), (5, 5), (1, 1)), (), ((0, 2), (1, 3), ()))
HALVES = (0, 0, 1, 1)
WRONG_VALUES = [(1, 0), (1, -1), (-1, 1), (10 ** 6 + 1, 1), (1, 1001), (1, 1, 1), (1,), (), [1], (True, 1), (1, True),
                (None, 1), (1, None), ("1", 1), ((1, 1),), (HUGE, 1), (1, HUGE), 1, *ODD_VALUES]
WRONG_PLACES = [(), [], (0,), (0, 0, 0), (0, 21), (-1, 0), (0, None), (True, 0), ("0", 0), ((0, 0),), (0, HUGE),
                *[value for value in ODD_VALUES if value != (0, 0)]]


def slow_line(stations):
    """A line of so many stations; model 0 takes 100 at each, model 1 nothing at all."""
    return free_line(((100, 100),) * stations, (), (tuple(range(stations)), ()))


def even_line(many):
    """A line and a run of 12: station s takes 12 in all for the first many[s] pieces, which are alike."""
    needs = [tuple(s for s in range(len(many)) if at < many[s]) for at in range(12)]
    models = list(dict.fromkeys(needs))
    return free_line([(12 // more, 12 // more) for more in many], (), models), tuple(map(models.index, needs))


def lowest(value):
    """The top and the bottom of a fraction in lowest terms."""
    shared = math.gcd(*value)
    return value[0] // shared, value[1] // shared


def is_evidence(line, plan, run, value, places, potentials, proof):
    """What places_hold tells, word by word."""
    stations, (top, bottom) = max(plan) + 1, lowest(value)
    if not do_hold(arcs_of(line, plan, places, run), stations, len(run), top, bottom, potentials):
        return False
    told = all_places(stations - 1, sum(places) - 1) if sum(places) > 0 else []
    if len(told) > 300 or not is_list(proof, len(told)):
        return False
    for them, pair in zip(told, proof):
        if not is_list(pair, 2) or not is_list(pair[0], len(them)):
            return False
        if not all(is_number(number, most, most) for number, most in zip(pair[0], them)):
            return False
        measured = measure(arcs_of(line, plan, them, run), pair[1])
        if measured is None or measured[0] * bottom <= top * measured[1]:
            return False
    return True


def fewest_by_trial(line, plan, run, value):
    """The fewest pieces of places that are enough; None if a station takes too long."""
    value, stations = Fraction(*value), max(plan) + 1
    if any(sum(take(line, plan, run, s, j) for j in range(len(run))) > value for s in range(stations)):
        return None
    return next(pieces for pieces in itertools.count()
                if any(not is_slow(line, plan, them, run, value) for them in all_places(stations - 1, pieces)))


class Places(Trial):
    def assert_fewest(self, line, plan, run, value):
        """What fewest_places returns is as told; returns how many pieces, or None for "never"."""
        told = fewest_places(line, plan, run, value)
        self.assert_plain(told)
        self.assertEqual(told, fewest_places(line, list(plan), list(run), list(value)))
        loads = [sum(take(line, plan, run, s, j) for j in range(len(run))) for s in range(max(plan) + 1)]
        top, bottom = lowest(value)
        if max(loads) * bottom > top:
            word, station = told
            self.assertEqual((word, type(station)), ("never", int))
            self.assertGreater(loads[station] * bottom, top)
            return None
        word, places, potentials, proof = told
        self.assertEqual((word, len(places)), ("places", max(plan)))
        self.assertTrue(all(0 <= many <= 20 for many in places))
        pieces = sum(places)
        self.assertTrue(do_hold(arcs_of(line, plan, places, run), max(plan) + 1, len(run), top, bottom, potentials))
        self.assertLessEqual(Fraction(*rate(line, plan, places, run)[0]), Fraction(top, bottom))
        self.assertEqual([pair[0] for pair in proof], all_places(max(plan), pieces - 1) if pieces else [])
        for them, circuit in proof:
            weight, turns = measure(arcs_of(line, plan, them, run), circuit)
            self.assertGreater(weight * bottom, top * turns)
            self.assertEqual(len({step[:2] for step in circuit}), len(circuit))
        self.assertTrue(is_evidence(line, plan, run, value, places, potentials, proof))
        self.assertIs(places_hold(line, plan, run, value, places, potentials, proof), True)
        self.assertIs(places_hold(line, plan, run, value, *[listed(part) for part in told[1:]]), True)
        return pieces

    def assert_too_many_divisions(self, *arguments):
        with self.assertRaises(RowError) as caught:
            fewest_places(*arguments)
        self.assertIs(type(caught.exception), TooMany)
        self.assertEqual(caught.exception.word, "divisions")


class Fewest(Places):
    def test_two_stations(self):
        for value, pieces in (((10, 1), 0), ((11, 1), 0), ((999, 100), 1), ((6, 1), 1), ((7, 1), 1), ((12, 2), 1),
                              ((10 ** 6, 1), 0), ((5, 1), None), ((599, 100), None), ((0, 1), None)):
            self.assertEqual(self.assert_fewest(PAIR, HALVES, (0, 1), value), pieces)
        self.assertEqual(fewest_places(PAIR, HALVES, (0, 1), (6, 1))[1], (1,))
        self.assertEqual([self.assert_fewest(PAIR, HALVES, (0, 0, 1, 1), (top, 1)) for top in (16, 15, 14, 12, 11)],
                         [0, 1, 2, 2, None])

    def test_no_pieces_and_an_empty_proof(self):
        word, places, potentials, proof = fewest_places(PAIR, HALVES, (0, 1), (10, 1))
        self.assertEqual((word, places, proof), ("places", (0,), ()))

    def test_one_station_has_no_places(self):
        word, places, potentials, proof = fewest_places(PAIR, (0,) * 4, (0, 1), (12, 1))
        self.assertEqual((word, places, proof), ("places", (), ()))
        self.assertEqual(self.assert_fewest(PAIR, (0,) * 4, (0, 1), (12, 1)), 0)
        self.assertEqual(self.assert_fewest(PAIR, (0,) * 4, (0, 1), (10 ** 6, 7)), 0)
        self.assertEqual(fewest_places(PAIR, (0,) * 4, (0, 1), (119, 10)), ("never", 0))
        self.assertEqual(fewest_places(PAIR, (0,) * 4, (2,), (0, 5))[:2], ("places", ()))

    def test_never_exactly_if_a_station_by_itself_takes_longer(self):
        line = free_line(((3, 3), (5, 5), (4, 4)), (), ((0, 1, 2), (0,)))
        self.assertEqual(fewest_places(line, (0, 1, 2), (0, 0), (9, 1)), ("never", 1))
        self.assertIn(fewest_places(line, (0, 1, 2), (0, 0), (7, 1)), (("never", 1), ("never", 2)))
        self.assertEqual(fewest_places(line, (0, 1, 2), (0, 1), (11, 2)), ("never", 0))
        self.assertEqual(self.assert_fewest(line, (0, 1, 2), (0, 0), (10, 1)), 0)
        self.assertEqual(self.assert_fewest(line, (0, 1, 2), (0, 0), (9999, 1000)), None)
        self.assertEqual(self.assert_fewest(line, (0, 1, 2), (0, 0), (20, 2)), 0)
        self.assertEqual(self.assert_fewest(line, (0, 1, 2), (0, 1), (6, 1)) is None, False)

    def test_values_not_in_lowest_terms(self):
        chosen = some(110)
        for _ in range(40):
            line = random_line(chosen, tasks=6)
            plan, places, run = random_flow(chosen, line, stations=3, length=4)
            top, bottom = chosen.randint(0, 40), chosen.randint(1, 4)
            for many in (2, 5, 100):
                self.assertEqual(fewest_places(line, plan, run, (top * many, bottom * many)),
                                 fewest_places(line, plan, run, (top, bottom)))
                self.assert_fewest(line, plan, run, (top * many, bottom * many))

    def test_a_value_of_0(self):
        for bottom in (1, 2, 1000):
            self.assertEqual(self.assert_fewest(PAIR, HALVES, (2, 2), (0, bottom)), 0)
            self.assertEqual(self.assert_fewest(PAIR, HALVES, (0, 2), (0, bottom)), None)

    def test_neither_order_nor_slips_count(self):
        told = fewest_places(PAIR, HALVES, (0, 1), (6, 1))
        for line in (with_slips(PAIR, 8), with_slips(PAIR, None),
                     Line(PAIR.tasks, ((2, 0), (3, 1)), PAIR.models, (((0, 0),),), 0)):
            self.assertEqual(fewest_places(line, HALVES, (0, 1), (6, 1)), told)

    def test_stations_without_tasks_can_hold_a_piece_too(self):
        # Station 1 has no task, and stands for a place.
        self.assertEqual(self.assert_fewest(PAIR, (0, 0, 2, 2), (0, 1), (6, 1)), 0)
        self.assertEqual(self.assert_fewest(PAIR, (0, 0, 2, 2), (0, 0, 1, 1), (12, 1)), 1)
        self.assertEqual(self.assert_fewest(PAIR, (0, 0, 3, 3), (0, 0, 1, 1), (12, 1)), 0)

    def test_against_a_trial_of_all_divisions(self):
        chosen = some(111)
        found = {}
        for _ in range(350):
            line = free_line([(chosen.randint(0, 20),) * 2 for _ in range(8)], (),
                             [tuple(task for task in range(8) if chosen.random() < 0.5) for _ in range(3)])
            plan = tuple(chosen.randrange(4) for _ in range(8))
            run = tuple(chosen.randrange(3) for _ in range(chosen.randint(1, 6)))
            loads = [sum(take(line, plan, run, s, j) for j in range(len(run))) for s in range(max(plan) + 1)]
            bottom = chosen.randint(1, 3)
            value = (max(0, (max(loads) + chosen.choice((0, 0, 1, 3, 20))) * bottom - chosen.randint(0, 1)), bottom)
            pieces = self.assert_fewest(line, plan, run, value)
            self.assertEqual(pieces, fewest_by_trial(line, plan, run, value))
            found[pieces] = found.get(pieces, 0) + 1
        self.assertGreater(min(found[pieces] for pieces in (None, 0, 1, 2)), 15)
        self.assertGreater(sum(many for pieces, many in found.items() if pieces and pieces > 2), 5)

    def test_n_less_1_places_are_always_enough(self):
        chosen = some(112)
        for _ in range(60):
            line = random_line(chosen, tasks=8, high=20)
            plan, _, run = random_flow(chosen, line, stations=3, length=6)
            loads = [sum(take(line, plan, run, s, j) for j in range(len(run))) for s in range(max(plan) + 1)]
            self.assertLessEqual(self.assert_fewest(line, plan, run, (max(loads), 1)), (len(run) - 1) * max(plan))

    def test_more_time_needs_no_more_places(self):
        chosen = some(113)
        for _ in range(30):
            line = random_line(chosen, tasks=8, high=20)
            plan, _, run = random_flow(chosen, line, stations=4, length=5)
            loads = [sum(take(line, plan, run, s, j) for j in range(len(run))) for s in range(max(plan) + 1)]
            last = None
            for top in range(max(loads), max(loads) + 30, 3):
                pieces = self.assert_fewest(line, plan, run, (top, 1))
                self.assertTrue(last is None or pieces <= last)
                last = pieces


class TooManyDivisions(Places):
    RUN = (0,) + (1,) * 11

    def exact(self, stations, run, value):
        """Whether TooMany is told exactly if it should, by a second way; returns whether it is."""
        line, plan = slow_line(stations), tuple(range(stations))
        limit = Fraction(*value)
        for pieces in itertools.count():
            divisions = all_places(stations - 1, pieces)
            if any(not is_slow(line, plan, them, run, limit) for them in divisions):
                self.assertEqual(self.assert_fewest(line, plan, run, value), pieces)
                return False
            if len(divisions) > 300:
                self.assert_too_many_divisions(line, plan, run, value)
                return True

    def test_against_a_second_way(self):
        found = {True: 0, False: 0}
        for stations, run, tops in ((6, (0, 1, 1), (100, 150, 200, 250)), (7, (0, 1, 1), (100, 200, 300)),
                                    (8, (0, 1), (100, 199, 200)), (9, (0, 1, 1), (100, 200)), (24, (0,), (100,))):
            for top in tops:
                found[self.exact(stations, run, (top, 1))] += 1
        self.assertGreater(min(found.values()), 2)

    def test_the_last_number_that_is_not_too_much(self):
        # Between 24 stations 2 pieces have 276 divisions, 3 have 2,300; each place that is needed takes one piece.
        for needed in range(6):
            chosen = [4 * at + 2 for at in range(needed)]
            # Of two stations side by side each takes the time of both models at once, unless there's a place.
            tasks, first, second = [], [], []
            for station in range(24):
                is_one = station in chosen or station - 1 in chosen
                tasks += [(5, 5), (1, 1)] if is_one else []
            line = free_line(tasks or ((0, 0),), (), (tuple(range(0, len(tasks), 2)), tuple(range(1, len(tasks), 2))))
            plan = tuple(at + more for at in chosen for more in (0, 0, 1, 1)) or (0,)
            plan = plan[:-1] + (plan[-1],)
            # The last station is 23, so that there are 23 places.
            line = free_line((*line.tasks, (0, 0)), (), (*line.models, ()))
            plan = (*plan, 23)
            if needed <= 3:
                self.assertEqual(self.assert_fewest(line, plan, (0, 1), (6, 1)), needed)
            else:
                self.assert_too_many_divisions(line, plan, (0, 1), (6, 1))
            self.assertEqual(self.assert_fewest(line, plan, (0, 1), (10, 1)), 0)

    def test_295_and_306_divisions(self):
        # Three places: 24 pieces have 295 divisions, 25 have 306.
        self.assertEqual([len(all_places(3, pieces)) for pieces in (23, 24, 25, 26)], [282, 295, 306, 315])
        for many, is_checked in (((6, 6, 6, 6), False), ((3, 6, 6, 6), False), ((4, 4, 4, 6), False),
                                 ((1, 6, 6, 4), False), ((2, 3, 6, 6), False), ((1, 3, 6, 6), True),
                                 ((3, 3, 4, 6), True), ((4, 4, 4, 4), False), ((1, 1, 1, 1), False)):
            line, run = even_line(many)
            needed = tuple(12 - min(pair) for pair in zip(many, many[1:]))
            self.assertEqual(rate(line, (0, 1, 2, 3), needed, run)[0], (12, 1))
            if sum(needed) <= 25:
                self.assertEqual(self.assert_fewest(line, (0, 1, 2, 3), run, (12, 1)), sum(needed))
            else:
                self.assert_too_many_divisions(line, (0, 1, 2, 3), run, (12, 1))
            if is_checked:
                self.assertEqual(sum(needed), 26)
                for them in all_places(3, 25):
                    self.assertGreater(rate(line, (0, 1, 2, 3), them, run)[0], (12, 1))

    def test_too_many_stands_behind_every_bad_value_and_never_is_told(self):
        line, plan = slow_line(24), tuple(range(24))
        self.assert_too_many_divisions(line, plan, self.RUN, (100, 1))
        self.assertEqual(fewest_places(line, plan, self.RUN, (99, 1))[0], "never")
        self.assert_bad(2, fewest_places, line, plan[1:], self.RUN, (100, 1))
        self.assert_bad(3, fewest_places, line, plan, self.RUN + (0,), (100, 1))
        self.assert_bad(4, fewest_places, line, plan, self.RUN, (100, 0))


class Holds(Places):
    LINE, PLAN, RUN, VALUE = slow_line(3), (0, 1, 2), (0, 1, 1), (150, 1)

    def assert_told(self, is_held, places, potentials, proof, value=VALUE):
        self.assertIs(is_evidence(self.LINE, self.PLAN, self.RUN, value, places, potentials, proof), is_held)
        self.assertIs(places_hold(self.LINE, self.PLAN, self.RUN, value, places, potentials, proof), is_held)

    def told(self):
        word, places, potentials, proof = fewest_places(self.LINE, self.PLAN, self.RUN, self.VALUE)
        self.assertGreater(len(proof), 2)
        return places, potentials, proof

    def test_pairs_left_out_doubled_and_turned(self):
        places, potentials, proof = self.told()
        self.assert_told(True, places, potentials, proof)
        for at in range(len(proof)):
            self.assert_told(False, places, potentials, proof[:at] + proof[at + 1:])
            self.assert_told(False, places, potentials, proof[:at] + proof[at:at + 1] + proof[at:])
            self.assert_told(False, places, potentials, proof[:at] + proof[at - 1:at] + proof[at + 1:])
        for first, second in itertools.combinations(range(len(proof)), 2):
            other = list(proof)
            other[first], other[second] = other[second], other[first]
            self.assert_told(False, places, potentials, other)
        self.assert_told(False, places, potentials, proof[::-1])
        self.assert_told(False, places, potentials, ())
        self.assert_told(False, places, potentials, (proof,))

    def test_circuits(self):
        places, potentials, proof = self.told()
        for at, (them, circuit) in enumerate(proof):
            own = ((0, 0, "same"), (0, 1, "same"), (0, 2, "same"))
            for other, is_held in ((circuit * 2, True), (circuit[1:] + circuit[:1], True), (listed(circuit), True),
                                   (own, False), (circuit[1:], False), ((), False), (None, False),
                                   (circuit + circuit[:1], False), (circuit[::-1], False)):
                changed = proof[:at] + ((them, other),) + proof[at + 1:]
                self.assert_told(is_held, places, potentials, changed)

    def test_the_circuits_are_above_the_value(self):
        # Without a place the rate is that of the circuit; a circuit of just the value is none against it.
        fraction, circuit, held = rate(PAIR, HALVES, (0,), (0, 1))
        self.assertEqual(fraction, (10, 1))
        word, places, potentials, proof = fewest_places(PAIR, HALVES, (0, 1), (6, 1))
        for value, is_held in (((6, 1), True), ((9, 1), True), ((99, 10), True), ((10, 1), False), ((11, 1), False)):
            arcs = arcs_of(PAIR, HALVES, (1,), (0, 1))
            scaled = tuple(tuple(value[1] * number for number in column) for column in potentials)
            self.assertTrue(do_hold(arcs, 2, 2, *value, scaled))
            self.assertIs(places_hold(PAIR, HALVES, (0, 1), value, (1,), scaled, (((0,), circuit),)), is_held)

    def test_them(self):
        places, potentials, proof = self.told()
        them, circuit = proof[1]
        for other in (them + (0,), them[:1], them[::-1], (), None, tuple(str(number) for number in them),
                      tuple(bool(number) for number in them), tuple(number + 1 for number in them), (them,), HUGE):
            if other != them or any(type(number) is bool for number in other):
                self.assert_told(False, places, potentials, proof[:1] + ((other, circuit),) + proof[2:])
        self.assert_told(True, places, potentials, proof[:1] + ((list(them), circuit),) + proof[2:])
        for pair in ((them,), (them, circuit, 0), (circuit, them), them, None, ()):
            self.assert_told(False, places, potentials, proof[:1] + (pair,) + proof[2:])

    def test_potentials(self):
        places, potentials, proof = self.told()
        up = tuple(tuple(number + 5 for number in column) for column in potentials)
        self.assert_told(True, places, up, proof)
        self.assert_told(False, places, up[:1] + potentials[1:], proof)
        for other in (potentials[1:], potentials + potentials[:1], (), None, potentials[::-1], proof):
            self.assert_told(False, places, other, proof)

    def test_the_fraction_is_in_lowest_terms_for_potentials(self):
        places, potentials, proof = self.told()
        self.assert_told(True, places, potentials, proof, (300, 2))
        self.assert_told(True, places, potentials, proof, (15000, 100))
        halves = fewest_places(PAIR, HALVES, (0, 1), (13, 2))[1:]
        for many in (1, 2, 50):
            self.assertIs(places_hold(PAIR, HALVES, (0, 1), (13 * many, 2 * many), *halves), True)
        # These hold for a rate of 10, which 16 / 2 is below and 20 / 2 is not.
        held = rate(PAIR, HALVES, (0,), (0, 1))[2]
        self.assertIs(places_hold(PAIR, HALVES, (0, 1), (20, 2), (0,), held, ()), True)
        for value in ((16, 2), (19, 2), (160, 20), (5, 2), (0, 2)):
            self.assertIs(places_hold(PAIR, HALVES, (0, 1), value, (0,), held, ()), False)
        # Potentials for a bottom of 1 do not rise enough for one of 2.
        low = fewest_places(PAIR, HALVES, (0, 1), (6, 1))[2]
        self.assertIs(places_hold(PAIR, HALVES, (0, 1), (13, 2), (1,), low, halves[2]),
                      do_hold(arcs_of(PAIR, HALVES, (1,), (0, 1)), 2, 2, 13, 2, low))

    def test_more_places_than_needed(self):
        places, potentials, proof = self.told()
        more = (places[0] + 1,) + places[1:]
        arcs = arcs_of(self.LINE, self.PLAN, more, self.RUN)
        held = rate(self.LINE, self.PLAN, more, self.RUN)[2]
        self.assertTrue(do_hold(arcs, 3, 3, 150, 1, held))
        self.assert_told(False, more, held, proof)
        # Among the divisions of one piece fewer is one that is not too slow.
        for them in all_places(2, sum(places)):
            if is_slow(self.LINE, self.PLAN, them, self.RUN, 150):
                continue
            circuit = rate(self.LINE, self.PLAN, them, self.RUN)[1]
            told = tuple((those, rate(self.LINE, self.PLAN, those, self.RUN)[1]) for those in all_places(2, sum(places)))
            self.assertLessEqual(Fraction(*measure(arcs_of(self.LINE, self.PLAN, them, self.RUN), circuit)), 150)
            self.assert_told(False, more, held, told)

    def test_fewer_places_than_needed(self):
        places, potentials, proof = self.told()
        for them, circuit in proof:
            less = all_places(2, sum(them) - 1) if sum(them) else []
            told = tuple((those, rate(self.LINE, self.PLAN, those, self.RUN)[1]) for those in less)
            self.assert_told(False, them, potentials, told)
            self.assert_told(False, them, rate(self.LINE, self.PLAN, them, self.RUN)[2], told)

    def test_other_places_that_are_as_few(self):
        places, potentials, proof = self.told()
        found = 0
        for them in all_places(2, sum(places)):
            held = rate(self.LINE, self.PLAN, them, self.RUN)[2]
            is_fine = not is_slow(self.LINE, self.PLAN, them, self.RUN, 150)
            found += is_fine
            self.assert_told(is_fine and do_hold(arcs_of(self.LINE, self.PLAN, them, self.RUN), 3, 3, 150, 1, held),
                             them, held, proof)
        self.assertGreater(found, 0)

    def test_no_pieces(self):
        held = rate(PAIR, HALVES, (0,), (0, 1))[2]
        circuit = rate(PAIR, HALVES, (0,), (0, 1))[1]
        for proof, is_held in (((), True), ([], True), ("", False), (None, False), (0, False), ((((0,), circuit),), False),
                               (((),), False), (((-1,), circuit), False), ((((-1,), circuit),), False)):
            self.assertIs(places_hold(PAIR, HALVES, (0, 1), (10, 1), (0,), held, proof), is_held)
            self.assertIs(places_hold(PAIR, (0,) * 4, (0, 1), (12, 1), (), ((0, 2),), proof), is_held)

    def test_more_than_300_divisions_of_one_piece_fewer(self):
        # All potentials hold where nothing takes any time; no circuit is above a value.
        line = free_line(((0, 0),), (), ((0,),))
        for stations, pieces in ((24, 4), (24, 23 * 20), (24, 200), (4, 26), (4, 60), (5, 40), (24, 3), (2, 20)):
            plan = (stations - 1,)
            places = (all_places(stations - 1, pieces)[0] if stations < 24
                      else tuple(min(20, max(0, pieces - 20 * at)) for at in range(23)))
            self.assertEqual(sum(places), pieces)
            held = ((0,),) * stations
            for proof in ((), ((places, ((0, 0, "same"),)),), None, ((),) * 301):
                self.assertIs(places_hold(line, plan, (0,), (0, 1), places, held, proof), False)

    def test_the_most_divisions_that_are_looked_at(self):
        # All 295 divisions of 24 pieces have a circuit.
        line, run = even_line((1, 4, 6, 6))
        places, potentials, proof = fewest_places(line, (0, 1, 2, 3), run, (12, 1))[1:]
        self.assertEqual((sum(places), len(proof)), (25, 295))
        self.assertIs(places_hold(line, (0, 1, 2, 3), run, (12, 1), places, potentials, proof), True)
        self.assertIs(places_hold(line, (0, 1, 2, 3), run, (12, 1), places, potentials, proof[:-1]), False)

    def test_a_whole_proof_of_306_divisions_does_not_count(self):
        line, run = even_line((1, 3, 6, 6))
        fraction, circuit, held = rate(line, (0, 1, 2, 3), (11, 9, 6), run)
        self.assertEqual(fraction, (12, 1))
        proof = tuple((them, rate(line, (0, 1, 2, 3), them, run)[1]) for them in all_places(3, 25))
        self.assertEqual(len(proof), 306)
        for them, circuit in proof:
            weight, turns = measure(arcs_of(line, (0, 1, 2, 3), them, run), circuit)
            self.assertGreater(weight, 12 * turns)
        self.assertIs(places_hold(line, (0, 1, 2, 3), run, (12, 1), (11, 9, 6), held, proof), False)

    def test_one_thing_is_changed(self):
        chosen = some(114)
        found = {True: 0, False: 0}
        for _ in range(60):
            line = random_line(chosen, tasks=8, high=20)
            plan, _, run = random_flow(chosen, line, stations=4, length=4)
            loads = [sum(take(line, plan, run, s, j) for j in range(len(run))) for s in range(max(plan) + 1)]
            value = (max(loads) + chosen.randint(0, 3), 1)
            told = fewest_places(line, plan, run, value)[1:]
            parts = [(where, part) for where, part in parts_in(told) if where and where[0] != 0]
            for where, part in chosen.sample(parts, min(len(parts), 30)):
                other = replaced(told, where, chosen.choice(changed_parts(chosen, part)))
                is_held = is_evidence(line, plan, run, value, *other)
                found[is_held] += 1
                self.assertIs(places_hold(line, plan, run, value, *other), is_held)
        self.assertGreater(min(found.values()), 50)

    def test_values_of_any_kind(self):
        places, potentials, proof = self.told()
        for other in (*ODD_VALUES, HUGE, deep(40), ("a",) * 50000, (places, potentials, proof)):
            self.assert_told(False, places, other, proof)
            self.assert_told(False, places, potentials, other)
            self.assertIs(places_hold(self.LINE, self.PLAN, self.RUN, (150, 1), places, other, other), False)

    def test_if_it_holds_no_fewer_places_are_enough(self):
        places, potentials, proof = self.told()
        for pieces in range(sum(places)):
            for them in all_places(2, pieces):
                self.assertTrue(is_slow(self.LINE, self.PLAN, them, self.RUN, 150))


class Errors(Trial):
    def test_errors(self):
        fine = {1: SMALL, 2: (0, 1, 2), 3: (0, 1), 4: (30, 2)}
        wrong = {2: WRONG_STATIONS, 3: WRONG_RUNS, 4: WRONG_VALUES}
        self.assert_errors(fewest_places, fine, wrong)
        self.assert_errors(places_hold, {**fine, 5: (0, 0), 6: None, 7: None}, {**wrong, 5: WRONG_PLACES})

    def test_bounds_of_values(self):
        for value in ((0, 1), (0, 1000), (10 ** 6, 1), (10 ** 6, 1000), [5, 1000]):
            self.assertIn(fewest_places(SMALL, (0, 0, 1), (0,), value)[0], ("never", "places"))
            self.assertIs(places_hold(SMALL, (0, 0, 1), (0,), value, (0,), None, None), False)

    def test_as_many_places_as_stations_but_one(self):
        for stations in (1, 2, 24):
            plan = (0, stations - 1, 0)
            for many in (0, 1, 2, 22, 23, 24):
                if many == stations - 1:
                    self.assertIs(places_hold(SMALL, plan, (0,), (9, 1), (20,) * many, None, None), False)
                else:
                    self.assert_bad(5, places_hold, SMALL, plan, (0,), (9, 1), (0,) * many, None, None)

    def test_arguments_by_name(self):
        word, places, potentials, proof = fewest_places(value=[6, 1], run=[0, 1], plan=[0, 0, 1, 1], line=PAIR)
        self.assertIs(places_hold(proof=proof, potentials=potentials, places=places, value=[6, 1], run=[0, 1],
                                  plan=[0, 0, 1, 1], line=PAIR), True)

    def test_what_is_given_stays_and_later_changes_have_no_effect(self):
        plan, run, value = [0, 0, 1, 1], [0, 1], [6, 1]
        told = fewest_places(PAIR, plan, run, value)
        given = listed(told[1:])
        self.assertIs(places_hold(PAIR, plan, run, value, *given), True)
        self.assertEqual((plan, run, value, given), ([0, 0, 1, 1], [0, 1], [6, 1], listed(told[1:])))
        plan[0], run[0], value[0] = 1, 1, 9
        self.assertEqual(told, fewest_places(PAIR, HALVES, (0, 1), (6, 1)))

    def test_they_stand_in_their_file(self):
        self.assertEqual(module.fewest_places.__module__, "anyrowline.places")
        self.assertEqual(module.places_hold.__module__, "anyrowline.places")


if __name__ == "__main__":
    unittest.main()
