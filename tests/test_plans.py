"""Points 14, 21, 22 and 23: is_plan, usual_load, extras and worst_load."""

import copy
import itertools
import random
import unittest

from anyrowline import plans
from anyrowline.errors import BadValue, RowError
from anyrowline.lines import Line, free_line
from anyrowline.plans import extras, is_plan, usual_load, worst_load

HUGE = 10 ** 30
NO_SEQUENCES = (None, True, False, 0, 1, 4, -1, HUGE, -HUGE, "", "a", "01", "01234", "\n", "a" * 20000)
NO_INTEGERS = (None, True, False, "", "0", "1", "a", (), [], (0,), [1], (0, 1), ((),))

TASKS = ((4, 6), (2, 9), (3, 3), (0, 7), (5, 7))
ORDER = ((0, 1), (1, 3), (2, 3))
MODELS = ((0, 1, 2, 3, 4), (1, 4), (), (0, 2, 4))
PLAN = (0, 0, 2, 2, 0)
LINE = free_line(TASKS, ORDER, MODELS)


def deep(levels):
    value = []
    for _ in range(levels - 1):
        value = [value]
    return value


WRONG_PLANS = NO_SEQUENCES + (
    (), [], (0,), (0, 0, 0, 0), (0, 0, 0, 0, 0, 0), [0, 0, 0, 0], [0, 0, 0, 0, 0, 0], (0,) * 20000, deep(40), LINE,
    (-1, 0, 0, 0, 0), (0, 0, 0, 0, -1), (0, 0, 0, 0, 24), (24, 24, 24, 24, 24), (0, 0, 0, 0, HUGE),
    (-HUGE, 0, 0, 0, 0), (0, 0, 0, 0, None), (0, 0, 0, 0, True), (False, 0, 0, 0, 0), (0, 0, 0, 0, "0"),
    (0, 0, 0, 0, (0,)), (0, 0, 0, 0, []), ((0, 0, 0, 0, 0),),
    (1, 0, 0, 2, 0), (0, 2, 0, 1, 0), (0, 0, 2, 1, 0), (23, 22, 0, 23, 0), [0, 0, 2, 1, 0],
)


class Plans(unittest.TestCase):
    def assert_raises(self, at, function, *told, **named):
        before = copy.deepcopy((told, named))
        with self.assertRaises(RowError) as caught:
            function(*told, **named)
        self.assertIs(type(caught.exception), BadValue)
        self.assertEqual(caught.exception.at, at)
        self.assertEqual((told, named), before)

    def assert_number(self, value, told):
        self.assertIs(type(value), int)
        self.assertEqual(value, told)

    def assert_numbers(self, value, *told):
        self.assertIs(type(value), tuple)
        self.assertEqual(value, told)
        for number in value:
            self.assertIs(type(number), int)


class IsPlan(Plans):
    def test_plans_that_fit(self):
        for plan in ((0, 0, 0, 0, 0), (0, 0, 2, 2, 0), (0, 1, 2, 2, 2), (2, 2, 2, 2, 0), (1, 1, 0, 1, 0),
                     (0, 1, 0, 2, 1)):
            with self.subTest(plan=plan):
                self.assertIs(is_plan(LINE, 3, plan), True)
                self.assertIs(is_plan(LINE, 3, list(plan)), True)
                self.assertIs(is_plan(LINE, 24, plan), True)

    def test_plans_against_the_order(self):
        for plan in ((1, 0, 0, 2, 0), (2, 1, 0, 2, 0), (0, 2, 0, 1, 0), (0, 0, 1, 0, 0), (0, 0, 2, 1, 0),
                     (2, 1, 1, 0, 0)):
            with self.subTest(plan=plan):
                self.assertIs(is_plan(LINE, 3, plan), False)
                self.assertIs(is_plan(LINE, 24, list(plan)), False)

    def test_values_that_are_no_plan(self):
        for value in WRONG_PLANS:
            with self.subTest(value=value):
                self.assertIs(is_plan(LINE, 24, value), False)
                self.assertIs(is_plan(LINE, 1, value), False)

    def test_stations_of_the_plan(self):
        for stations in range(1, 25):
            with self.subTest(stations=stations):
                self.assertIs(is_plan(LINE, stations, (stations - 1,) * 5), True)
                self.assertIs(is_plan(LINE, stations, (0, 0, 0, 0, stations - 1)), True)
                self.assertIs(is_plan(LINE, stations, (0, 0, 0, stations, 0)), False)
                self.assertIs(is_plan(LINE, stations, (stations,) * 5), False)
                self.assertIs(is_plan(LINE, stations, (0, 0, 0, 0, -1)), False)

    def test_wrong_stations(self):
        for stations in NO_INTEGERS + (0, -1, 25, 26, HUGE, -HUGE, LINE):
            with self.subTest(stations=stations):
                self.assert_raises(2, is_plan, LINE, stations, PLAN)
                self.assert_raises(2, is_plan, LINE, stations, None)

    def test_one_task(self):
        line = free_line(((1, 2),), (), ((0,),))
        self.assertIs(is_plan(line, 1, (0,)), True)
        self.assertIs(is_plan(line, 1, (1,)), False)
        self.assertIs(is_plan(line, 1, ()), False)
        self.assertIs(is_plan(line, 24, [23]), True)

    def test_24_tasks_at_24_stations(self):
        chain = tuple((task, task + 1) for task in range(23))
        line = free_line(((1, 2),) * 24, chain, ((0,),))
        self.assertIs(is_plan(line, 24, tuple(range(24))), True)
        self.assertIs(is_plan(line, 23, tuple(range(24))), False)
        self.assertIs(is_plan(line, 24, (*range(22), 23, 22)), False)
        self.assertIs(is_plan(line, 1, (0,) * 24), True)
        self.assertIs(is_plan(line, 1, (0,) * 25), False)

    def test_every_plan_of_a_line(self):
        line = free_line(((1, 1),) * 4, ((2, 0), (0, 3), (1, 3)), ((0,),))
        for plan in itertools.product(range(-1, 4), repeat=4):
            fits = plan[2] <= plan[0] <= plan[3] and plan[1] <= plan[3]
            for stations in (1, 2, 3):
                told = fits and min(plan) >= 0 and max(plan) < stations
                self.assertIs(is_plan(line, stations, plan), told)

    def test_values_are_not_changed(self):
        value = [0, 0, 2, 2, 0]
        is_plan(LINE, 3, value)
        self.assertEqual(value, [0, 0, 2, 2, 0])

    def test_arguments_by_name(self):
        self.assertIs(is_plan(value=PLAN, stations=3, line=LINE), True)


class UsualLoad(Plans):
    def test_each_station_and_model(self):
        told = {0: (11, 7, 0, 9), 1: (0, 0, 0, 0), 2: (3, 0, 0, 3), 3: (0, 0, 0, 0), 23: (0, 0, 0, 0)}
        for station, loads in told.items():
            for model, load in enumerate(loads):
                with self.subTest(station=station, model=model):
                    self.assert_number(usual_load(LINE, PLAN, station, model), load)
                    self.assert_number(usual_load(LINE, list(PLAN), station, model), load)

    def test_the_greatest_load(self):
        line = free_line(((10000, 10000),) * 24, (), (tuple(range(24)),))
        self.assert_number(usual_load(line, (23,) * 24, 23, 0), 240000)
        self.assert_number(usual_load(line, (23,) * 24, 22, 0), 0)

    def test_the_plan_is_not_changed(self):
        plan = list(PLAN)
        usual_load(LINE, plan, 0, 0)
        self.assertEqual(plan, list(PLAN))

    def test_arguments_by_name(self):
        self.assert_number(usual_load(model=0, station=0, plan=PLAN, line=LINE), 11)


class Extras(Plans):
    def test_each_station_and_model(self):
        told = {0: ((7, 2, 2), (7, 2), (), (2, 2)), 1: ((), (), (), ()), 2: ((7, 0), (), (), (0,)),
                3: ((), (), (), ()), 23: ((), (), (), ())}
        for station, all_extras in told.items():
            for model, numbers in enumerate(all_extras):
                with self.subTest(station=station, model=model):
                    self.assert_numbers(extras(LINE, PLAN, station, model), *numbers)
                    self.assert_numbers(extras(LINE, list(PLAN), station, model), *numbers)

    def test_they_descend_and_none_is_left_out(self):
        line = free_line(((3, 3), (1, 4), (0, 9), (2, 2), (6, 9), (5, 5)), (), ((0, 1, 2, 3, 4, 5), (0, 3, 5)))
        self.assert_numbers(extras(line, (4,) * 6, 4, 0), 9, 3, 3, 0, 0, 0)
        self.assert_numbers(extras(line, (4,) * 6, 4, 1), 0, 0, 0)

    def test_the_greatest_extras(self):
        line = free_line(((0, 10000),) * 24, (), (tuple(range(24)),))
        self.assert_numbers(extras(line, (0,) * 24, 0, 0), *(10000,) * 24)

    def test_the_plan_is_not_changed(self):
        plan = list(PLAN)
        extras(LINE, plan, 0, 0)
        self.assertEqual(plan, list(PLAN))

    def test_arguments_by_name(self):
        self.assert_numbers(extras(model=0, station=0, plan=PLAN, line=LINE), 7, 2, 2)


class WorstLoad(Plans):
    def test_each_number_of_slips(self):
        for slips, load in ((0, 11), (1, 18), (2, 20), (3, 22), (4, 22), (5, 22), (8, 22), (9, 22), (24, 22),
                            (25, 22), (HUGE, 22), (None, 22)):
            with self.subTest(slips=slips):
                self.assert_number(worst_load(LINE, PLAN, 0, 0, slips), load)
                self.assert_number(worst_load(LINE, list(PLAN), 0, 0, slips), load)

    def test_other_models_and_stations(self):
        for station, model, slips, load in ((0, 1, 0, 7), (0, 1, 1, 14), (0, 1, 2, 16), (0, 1, None, 16), (0, 3, 1, 11),
                                            (0, 3, None, 13), (2, 0, 0, 3), (2, 0, 1, 10), (2, 0, 2, 10),
                                            (2, 3, None, 3), (0, 2, None, 0), (0, 2, 3, 0)):
            with self.subTest(station=station, model=model, slips=slips):
                self.assert_number(worst_load(LINE, PLAN, station, model, slips), load)

    def test_idle_stations(self):
        for station in (1, 3, 22, 23):
            for slips in (0, 1, 30, None):
                self.assert_number(worst_load(LINE, PLAN, station, 0, slips), 0)

    def test_the_slips_of_the_line_play_no_part(self):
        for slips in (None, 0, 1, 8):
            line = free_line(TASKS, ORDER, MODELS, slips=slips)
            self.assert_number(worst_load(line, PLAN, 0, 0, None), 22)
            self.assert_number(worst_load(line, PLAN, 0, 0, 0), 11)
            self.assert_number(worst_load(line, PLAN, 0, 0, 2), 20)

    def test_the_greatest_load(self):
        line = free_line(((0, 10000),) * 24, (), (tuple(range(24)),))
        for slips, load in ((0, 0), (1, 10000), (23, 230000), (24, 240000), (25, 240000), (None, 240000)):
            self.assert_number(worst_load(line, (0,) * 24, 0, 0, slips), load)

    def test_wrong_slips(self):
        for slips in NO_INTEGERS[1:] + (-1, -2, -HUGE, "None", LINE):
            with self.subTest(slips=slips):
                self.assert_raises(5, worst_load, LINE, PLAN, 0, 0, slips)
                self.assert_raises(5, worst_load, LINE, PLAN, 1, 2, slips)

    def test_the_plan_is_not_changed(self):
        plan = list(PLAN)
        worst_load(LINE, plan, 0, 0, 1)
        self.assertEqual(plan, list(PLAN))

    def test_arguments_by_name(self):
        self.assert_number(worst_load(slips=1, model=0, station=0, plan=PLAN, line=LINE), 18)


class AllThree(Plans):
    """What usual_load, extras and worst_load have in common."""

    CALLS = ((usual_load, ()), (extras, ()), (worst_load, (1,)), (worst_load, (None,)))

    def test_wrong_plans(self):
        for function, rest in self.CALLS:
            for plan in WRONG_PLANS:
                with self.subTest(function=function.__name__, plan=plan):
                    self.assert_raises(2, function, LINE, plan, 0, 0, *rest)

    def test_wrong_stations(self):
        for function, rest in self.CALLS:
            for station in NO_INTEGERS + (-1, -2, 24, 25, HUGE, -HUGE, LINE):
                with self.subTest(function=function.__name__, station=station):
                    self.assert_raises(3, function, LINE, PLAN, station, 0, *rest)

    def test_wrong_models(self):
        for function, rest in self.CALLS:
            for model in NO_INTEGERS + (-1, -2, -4, 4, 5, HUGE, -HUGE, LINE):
                with self.subTest(function=function.__name__, model=model):
                    self.assert_raises(4, function, LINE, PLAN, 0, model, *rest)
                    self.assert_raises(4, function, LINE, PLAN, 23, model, *rest)

    def test_the_order_of_errors(self):
        fine, wrong = (PLAN, 0, 0, 0), ((0, 0, 2, 1, 0), 24, 4, -1)
        for which in itertools.product((False, True), repeat=4):
            if any(which):
                told = [wrong[at] if is_wrong else fine[at] for at, is_wrong in enumerate(which)]
                self.assert_raises(which.index(True) + 2, worst_load, LINE, *told)
            if any(which[:3]):
                self.assert_raises(which.index(True) + 2, usual_load, LINE, *told[:3])
                self.assert_raises(which.index(True) + 2, extras, LINE, *told[:3])

    def test_plans_up_to_station_23(self):
        plan = (23, 23, 23, 23, 0)
        self.assert_number(usual_load(LINE, plan, 23, 0), 9)
        self.assert_numbers(extras(LINE, plan, 23, 0), 7, 7, 2, 0)
        self.assert_number(worst_load(LINE, plan, 23, 0, 1), 16)
        self.assert_number(usual_load(LINE, plan, 0, 0), 5)

    def test_the_last_model(self):
        self.assert_number(usual_load(LINE, PLAN, 0, 3), 9)
        self.assert_numbers(extras(LINE, PLAN, 0, 3), 2, 2)
        self.assert_number(worst_load(LINE, PLAN, 0, 3, 1), 11)

    def test_models_that_no_state_lets_come(self):
        line = Line(TASKS, ORDER, MODELS, (((0, 0),),), 0)
        self.assert_number(usual_load(line, PLAN, 0, 1), 7)
        self.assert_numbers(extras(line, PLAN, 0, 1), 7, 2)
        self.assert_number(worst_load(line, PLAN, 0, 1, 1), 14)

    def test_some_lines(self):
        chosen = random.Random(11)
        for _ in range(200):
            many = chosen.randint(1, 24)
            tasks = [sorted((chosen.randint(0, 20), chosen.randint(0, 20))) for _ in range(many)]
            model = [task for task in range(many) if chosen.random() < 0.7]
            plan = [chosen.randint(0, 4) for _ in range(many)]
            line = free_line(tasks, (), ((), model))
            for station in range(6):
                self.compare(line, plan, station, [tasks[task] for task in model if plan[task] == station])

    def compare(self, line, plan, station, here):
        usual = sum(task[0] for task in here)
        more = sorted((task[0] - task[1] for task in here))
        self.assert_number(usual_load(line, plan, station, 1), usual)
        self.assert_numbers(extras(line, plan, station, 1), *[-number for number in more])
        for slips in range(len(here) + 2):
            self.assert_number(worst_load(line, plan, station, 1, slips), usual - sum(more[:slips]))
        self.assert_number(worst_load(line, plan, station, 1, None), sum(task[1] for task in here))

    def test_the_functions_stand_in_their_file(self):
        for name in ("is_plan", "usual_load", "extras", "worst_load"):
            self.assertEqual(getattr(plans, name).__module__, "anyrowline.plans")


if __name__ == "__main__":
    unittest.main()
