"""Points 41 to 53 with values as large as they may be, and how long the calls take."""

import unittest
from fractions import Fraction

from anyrowline.console import Console
from anyrowline.errors import RowError, TooMany
from anyrowline.flow import departures
from anyrowline.lines import Line, free_line
from anyrowline.places import fewest_places, places_hold
from anyrowline.rates import rate, rate_holds
from anyrowline.texts import parse, printed
from flows import all_places, arcs_of, departures_by_rule, do_hold, is_slow, measure
from test_greatest import PAIRS, Greatest, great_line
from trials import changed_parts, parts_in, replaced, some


def great_flow(chosen, stations):
    """A line of 24 tasks, a plan for so many stations, and a run of 12."""
    share = chosen.choice((0.1, 0.5, 0.9))
    models = [tuple(task for task in range(24) if chosen.random() < share) for _ in range(8)]
    line = free_line([(chosen.randint(0, chosen.choice((9, 10000))),) * 2 for _ in range(24)], (), models)
    plan = [min(task, stations - 1) if chosen.random() < 0.8 else chosen.randrange(stations) for task in range(24)]
    plan[chosen.randrange(24)] = stations - 1
    return line, tuple(plan), tuple(chosen.randrange(8) for _ in range(12))


class Flows(Greatest):
    def lines(self, seed):
        """Some lines with plans and runs, and those in which one slow piece goes through all stations."""
        chosen = some(seed)
        found = [great_flow(chosen, stations) for stations in (24, 24, 24, 24, 12, 12, 5, 4, 4, 3, 2, 1)]
        for stations, slow in ((24, 1), (24, 6), (12, 4), (4, 4), (4, 6), (5, 5)):
            line = free_line(((10000, 10000),) * stations, (), (tuple(range(stations)), ()))
            found.append((line, tuple(range(stations)), (0,) * slow + (1,) * (12 - slow)))
        return found

    def assert_rate(self, line, plan, places, run):
        fraction, circuit, held = self.timed(rate, line, plan, places, run)
        arcs = arcs_of(line, plan, places, run)
        weight, turns = measure(arcs, circuit)
        self.assertEqual(Fraction(weight, turns), Fraction(*fraction))
        self.assertEqual(len({step[:2] for step in circuit}), len(circuit))
        self.assertTrue(do_hold(arcs, max(plan) + 1, len(run), *fraction, held))
        self.assertEqual(min(min(column) for column in held), 0)
        self.assertIs(self.timed(rate_holds, line, plan, places, run, fraction, circuit, held), True)
        self.assertIs(self.timed(rate_holds, line, plan, places, run, fraction, circuit * 100, held), True)
        return Fraction(*fraction)

    def test_departures(self):
        chosen = some(140)
        for line, plan, run in self.lines(141):
            places = tuple(chosen.randint(0, 20) for _ in range(max(plan)))
            table = self.timed(departures, line, plan, places, run, 200)
            self.assertEqual(table, departures_by_rule(line, plan, places, run, 200))

    def test_rates(self):
        chosen = some(142)
        for line, plan, run in self.lines(143):
            slow = self.assert_rate(line, plan, (0,) * max(plan), run)
            loads = [sum(sum(line.tasks[task][0] for task in line.models[model] if plan[task] == station)
                         for model in run) for station in range(max(plan) + 1)]
            for places in ((1,) * max(plan), (20,) * max(plan), (11,) * max(plan),
                           tuple(chosen.choice((0, 1, 2, 20)) for _ in range(max(plan)))):
                value = self.assert_rate(line, plan, places, run)
                self.assertTrue(max(loads) <= value <= slow)
                if min(places, default=11) >= 11:
                    self.assertEqual(value, max(loads))

    def test_changed_rates(self):
        chosen = some(144)
        line, plan, run = great_flow(chosen, 24)
        places = tuple(chosen.randint(0, 3) for _ in range(23))
        told = rate(line, plan, places, run)
        arcs = arcs_of(line, plan, places, run)
        parts = [(where, part) for where, part in parts_in(told) if where and where[0] == 2]
        for where, part in chosen.sample(parts, 100):
            other = replaced(told, where, chosen.choice(changed_parts(chosen, part)))
            is_held = do_hold(arcs, 24, 12, *told[0], other[2])
            self.assertIs(rate_holds(line, plan, places, run, *other), is_held)

    def test_fewest_places(self):
        told = {"places": 0, "divisions": 0}
        for line, plan, run in self.lines(145):
            loads = [sum(sum(line.tasks[task][0] for task in line.models[model] if plan[task] == station)
                         for model in run) for station in range(max(plan) + 1)]
            slow = Fraction(*rate(line, plan, (0,) * max(plan), run)[0])
            for part in (0, 1, 3, 6, 9, 10):
                value = max(loads) + (slow - max(loads)) * part / 10
                value = (min(10 ** 6, int(value * 5)), 5) if value < 200000 else (10 ** 6, 1)
                try:
                    word, *told_by = self.timed(fewest_places, line, plan, run, value)
                except RowError as error:
                    self.assertEqual((type(error), error.word), (TooMany, "divisions"))
                    told["divisions"] += 1
                    continue
                if word == "never":
                    self.assertGreater(loads[told_by[0]] * 5, value[0])
                    continue
                places, held, proof = told_by
                told["places"] += 1
                self.assertIs(self.timed(places_hold, line, plan, run, value, places, held, proof), True)
                self.assertFalse(is_slow(line, plan, places, run, Fraction(*value)))
                self.assertEqual([pair[0] for pair in proof],
                                 all_places(max(plan), sum(places) - 1) if sum(places) else [])
                for them, circuit in proof:
                    weight, turns = measure(arcs_of(line, plan, them, run), circuit)
                    self.assertGreater(weight * value[1], value[0] * turns)
        self.assertGreater(min(told.values()), 5)

    def test_divisions_that_nobody_could_count(self):
        line = free_line(((1, 1),), (), ((0,),))
        for many in (10, 20):
            self.assertIs(self.timed(places_hold, line, (23,), (0,) * 12, (12, 1), (many,) * 23, ((0,) * 12,) * 24, ()),
                          False)


class Texts(Greatest):
    def test_a_greatest_line_printed_and_parsed(self):
        for slips in (None, 0, 8):
            for is_chain in (False, True):
                line = great_line(some(146), slips, is_chain)
                text = self.timed(printed, line)
                self.assertEqual(self.timed(parse, text), line)
                self.assertEqual(printed(parse(text)), text)

    def test_texts_of_many_lines(self):
        for text in ("state 0:0\n" * 100000, "\n" * 100000, "line slips 0 start 0\n" + "task 1 1\n" * 100000,
                     "line slips 0 start 0\ntask 1 1\nmodel" + " 0" * 100000 + "\nstate 0:0\n",
                     "line slips 0 start 0\ntask 1 1\nmodel 0\nstate" + " 0:0" * 100000 + "\n"):
            with self.assertRaises(RowError):
                self.timed(parse, text)

    def test_a_console_with_a_greatest_free_line(self):
        chosen = some(147)
        held = Console()
        tasks = ";".join("{}/{}".format(*sorted((chosen.randint(0, 10000), chosen.randint(0, 10000))))
                         for _ in range(24))
        models = ";".join(",".join(str(task) for task in range(24) if chosen.random() < 0.6) or "-" for _ in range(8))
        self.assertEqual(held.run(f"free a 8 {tasks} {models}"), "ok")
        for before, after in PAIRS:
            self.assertEqual(held.run(f"order a {before} {after}"), "ok")
        plan = ",".join(str(task) for task in range(24))
        for command in (f"safe a {plan} 3 300000 5000", f"beat a {plan} {','.join(['3000'] * 24)}", "best a 300000",
                        "stations a 300000 1", f"moves a 300000 240000 {plan}",
                        f"rate a {plan} {','.join(['3'] * 23)} 0,1,2,3,4,5,6,7,0,1,2,3", "show a"):
            answer = self.timed(held.run, command)
            self.assertFalse(answer.startswith("error"))
        line = parse(held.run("show a"))
        self.assertEqual(line, Line(line.tasks, PAIRS, line.models, line.states, 0, slips=8))
        again = self.timed(Console.replayed, held.log())
        self.assertEqual(again.log(), held.log())
        self.assertEqual(again.run("show a"), printed(line))

    def test_long_logs(self):
        log = "show a\n" * 50000
        self.assertEqual(self.timed(Console.replayed, log).log(), log)


if __name__ == "__main__":
    unittest.main()
