"""Points 14, 16 and 17: every error of Line, at its place and in the order told."""

import copy
import itertools
import random
import unittest

from anyrowline.errors import BadModel, BadPair, BadState, BadTask, BadValue, RowError, TooMany
from anyrowline.lines import Line

TASKS = ((4, 4), (2, 5), (3, 3), (0, 7))
ORDER = ((0, 1), (1, 3))
MODELS = ((0, 1, 2), (0, 2), ())
STATES = (((0, 1), (2, 0)), ((1, 0),), ((0, 2), (1, 1)))
FINE = {"tasks": TASKS, "order": ORDER, "models": MODELS, "states": STATES, "start": 1, "slips": 3}

HUGE = 10 ** 30
NO_SEQUENCES = (None, True, False, 0, 1, 4, -1, HUGE, -HUGE, "", "a", "01", "0123", "\n", "a" * 20000)
NO_INTEGERS = (None, True, False, "", "0", "1", "a", (), [], (0,), [1], (0, 1), ((),))


def deep(levels):
    value = []
    for _ in range(levels - 1):
        value = [value]
    return value


def all_pairs(many):
    return tuple((before, after) for before in range(many) for after in range(before + 1, many))


class Errors(unittest.TestCase):
    def made(self, **changes):
        told = dict(FINE)
        told.update(changes)
        return Line(told["tasks"], told["order"], told["models"], told["states"], told["start"],
                    slips=told["slips"])

    def assert_raises(self, error, kept, **changes):
        """Line raises this very error with this argument, and changes nothing that it is passed."""
        before = copy.deepcopy(changes)
        with self.assertRaises(RowError) as caught:
            self.made(**changes)
        self.assertIs(type(caught.exception), error)
        raised = caught.exception.word if error is TooMany else caught.exception.at
        self.assertEqual(raised, kept)
        self.assertIsNot(type(raised), bool)
        self.assertEqual(changes, before)


class TheFineLine(Errors):
    def test_it_raises_nothing(self):
        self.made()


class WrongTasks(Errors):
    def only(self, *tasks):
        """A line of these tasks alone, so that no other argument can be wrong."""
        return {"tasks": tasks, "order": (), "models": ((),), "states": (((0, 0),),), "start": 0}

    def test_no_sequence(self):
        for tasks in NO_SEQUENCES:
            with self.subTest(tasks=tasks):
                self.assert_raises(BadValue, 1, tasks=tasks)

    def test_a_line_is_no_sequence(self):
        self.assert_raises(BadValue, 1, tasks=self.made())

    def test_no_task(self):
        for tasks in ((), []):
            self.assert_raises(BadValue, 1, tasks=tasks)

    def test_24_tasks_are_fine_and_25_too_many(self):
        self.assertEqual(self.made(tasks=((1, 2),) * 24).tasks, ((1, 2),) * 24)
        self.assertEqual(self.made(tasks=[[1, 2]] * 24).tasks, ((1, 2),) * 24)
        for many in (25, 26, 20000):
            self.assert_raises(TooMany, "tasks", tasks=((1, 2),) * many)
            self.assert_raises(TooMany, "tasks", tasks=[(1, 2)] * many)

    def test_too_many_comes_ahead_of_wrong_tasks(self):
        self.assert_raises(TooMany, "tasks", tasks=(None,) * 25)
        self.assert_raises(TooMany, "tasks", tasks=((2, 1),) + ((1, 2),) * 24)
        self.assert_raises(TooMany, "tasks", tasks=((1, 2),) * 24 + (None,))

    def test_tasks_that_are_no_pairs(self):
        for task in NO_SEQUENCES + ((), [], (1,), [1], (1, 1, 1), [1, 1, 1], ((1, 1),), deep(38), (1,) * 19000):
            with self.subTest(task=task):
                self.assert_raises(BadTask, 0, tasks=(task,) + TASKS[1:])

    def test_times_that_are_no_integers(self):
        for time in NO_INTEGERS:
            with self.subTest(time=time):
                self.assert_raises(BadTask, 0, **self.only((time, 5)))
                self.assert_raises(BadTask, 0, **self.only((0, time)))
                self.assert_raises(BadTask, 0, **self.only((time, time)))

    def test_times_at_the_edge_and_one_beyond(self):
        for task in ((0, 0), (0, 1), (1, 1), (0, 10000), (9999, 10000), (10000, 10000)):
            with self.subTest(task=task):
                self.assertEqual(self.made(**self.only(task)).tasks, (task,))
        for task in ((-1, 0), (-1, -1), (0, 10001), (10000, 10001), (10001, 10001), (10001, 10000), (0, -1),
                     (0, HUGE), (-HUGE, 0), (-HUGE, HUGE), (HUGE, HUGE), (-1, 10000)):
            with self.subTest(task=task):
                self.assert_raises(BadTask, 0, **self.only(task))

    def test_usual_above_upper(self):
        for task in ((1, 0), (5, 4), (10000, 9999), (10000, 0)):
            with self.subTest(task=task):
                self.assert_raises(BadTask, 0, **self.only(task))

    def test_the_first_wrong_task_is_told(self):
        for at in range(24):
            tasks = [(1, 2)] * 24
            tasks[at] = (2, 1)
            self.assert_raises(BadTask, at, tasks=tasks)
            for behind in range(at + 1, 24):
                tasks[behind] = None
            self.assert_raises(BadTask, at, tasks=tasks)


class WrongOrder(Errors):
    def test_no_sequence(self):
        for order in NO_SEQUENCES:
            with self.subTest(order=order):
                self.assert_raises(BadValue, 2, order=order)
        self.assert_raises(BadValue, 2, order=self.made())

    def test_no_pair_is_fine(self):
        self.assertEqual(self.made(order=()).order, ())
        self.assertEqual(self.made(order=[]).order, ())

    def test_200_pairs_are_fine_and_201_too_many(self):
        pairs = all_pairs(24)
        tasks = ((1, 2),) * 24
        self.assertEqual(self.made(tasks=tasks, order=pairs[:200]).order, pairs[:200])
        self.assertEqual(self.made(tasks=tasks, order=pairs[::-1][:200]).order, pairs[::-1][:200])
        for many in (201, 202, 276):
            self.assert_raises(TooMany, "pairs", tasks=tasks, order=pairs[:many])

    def test_too_many_comes_ahead_of_wrong_pairs(self):
        self.assert_raises(TooMany, "pairs", order=(None,) * 201)
        self.assert_raises(TooMany, "pairs", order=((0, 1),) * 201)
        self.assert_raises(TooMany, "pairs", order=[[0, 0]] * 20000)
        self.assert_raises(BadPair, 0, order=(None,) * 200)
        self.assert_raises(BadPair, 1, order=((0, 1),) * 200)

    def test_pairs_that_are_no_pairs(self):
        for pair in NO_SEQUENCES + ((), [], (0,), [0], (0, 1, 2), [0, 1, 2], ((0, 1),), deep(38)):
            with self.subTest(pair=pair):
                self.assert_raises(BadPair, 0, order=(pair,))
                self.assert_raises(BadPair, 2, order=ORDER + (pair,))

    def test_tasks_that_are_no_numbers_of_tasks(self):
        for task in NO_INTEGERS + (-1, -2, -4, 4, 5, HUGE, -HUGE):
            with self.subTest(task=task):
                self.assert_raises(BadPair, 0, order=((task, 2),))
                self.assert_raises(BadPair, 0, order=((2, task),))

    def test_the_last_number_of_a_task_is_fine(self):
        self.assertEqual(self.made(order=((3, 0),)).order, ((3, 0),))
        self.assertEqual(self.made(order=((0, 3),)).order, ((0, 3),))

    def test_the_same_task_twice(self):
        for task in range(4):
            self.assert_raises(BadPair, 0, order=((task, task),))
            self.assert_raises(BadPair, 2, order=ORDER + ([task, task],))

    def test_a_pair_that_is_told_a_second_time(self):
        self.assert_raises(BadPair, 1, order=((0, 1), (0, 1)))
        self.assert_raises(BadPair, 1, order=([0, 1], (0, 1)))
        self.assert_raises(BadPair, 1, order=((0, 1), [0, 1]))
        self.assert_raises(BadPair, 3, order=((0, 1), (1, 2), (2, 3), (0, 1)))
        self.assert_raises(BadPair, 3, order=((0, 1), (1, 2), (2, 3), (1, 2), (0, 1)))

    def test_circles(self):
        self.assert_raises(BadPair, 1, order=((0, 1), (1, 0)))
        self.assert_raises(BadPair, 2, order=((0, 1), (1, 2), (2, 0)))
        self.assert_raises(BadPair, 2, order=((1, 2), (0, 1), (2, 0)))
        self.assert_raises(BadPair, 3, order=((0, 1), (2, 3), (1, 2), (3, 0)))
        self.assert_raises(BadPair, 3, order=((2, 3), (1, 2), (0, 1), (3, 0)))
        self.assert_raises(BadPair, 3, order=((3, 0), (1, 2), (0, 1), (2, 3)))
        self.assert_raises(BadPair, 4, order=((0, 1), (0, 2), (1, 3), (2, 3), (3, 0), (3, 1)))

    def test_a_circle_is_told_at_the_pair_that_closes_it_not_ahead_of_it(self):
        self.assert_raises(BadPair, 2, order=((1, 0), (0, 2), (0, 1), (2, 0)))
        self.assert_raises(BadPair, 1, order=((0, 1), (1, 0), None))
        self.assert_raises(BadPair, 1, order=((0, 1), None, (1, 0)))

    def test_what_is_no_circle(self):
        for order in (((0, 1), (0, 2), (1, 3), (2, 3)), ((0, 1), (1, 2), (0, 2)), ((0, 2), (1, 2), (0, 1)),
                      ((3, 2), (2, 1), (1, 0), (3, 0), (3, 1), (2, 0))):
            with self.subTest(order=order):
                self.assertEqual(self.made(order=order).order, order)

    def test_a_circle_of_24_tasks(self):
        tasks = ((1, 2),) * 24
        chain = [(task, task + 1) for task in range(23)]
        for seed in range(10):
            random.Random(seed).shuffle(chain)
            self.assert_raises(BadPair, 23, tasks=tasks, order=chain + [(23, 0)])
            self.assertEqual(self.made(tasks=tasks, order=chain + [(0, 23)]).order, (*chain, (0, 23)))

    def test_the_200th_pair_is_checked(self):
        pairs = list(all_pairs(24)[:199])
        tasks = ((1, 2),) * 24
        self.assert_raises(BadPair, 199, tasks=tasks, order=pairs + [(pairs[50][1], pairs[50][0])])
        self.assert_raises(BadPair, 199, tasks=tasks, order=pairs + [pairs[50]])
        self.assert_raises(BadPair, 199, tasks=tasks, order=pairs + [(0, 24)])

    def first_wrong(self, order):
        """The first pair that is told again or with which no task order fits all pairs so far."""
        for at, pair in enumerate(order):
            if pair in order[:at]:
                return at
            fits = [all(places[before] < places[after] for before, after in order[:at + 1])
                    for places in itertools.permutations(range(4))]
            if not any(fits):
                return at
        return None

    def test_all_orders_of_few_pairs(self):
        pairs = tuple(itertools.permutations(range(4), 2))
        for order in itertools.product(pairs, repeat=3):
            self.check(order)

    def test_some_orders_of_more_pairs(self):
        chosen = random.Random(7)
        pairs = tuple(itertools.permutations(range(4), 2))
        for _ in range(600):
            self.check(tuple(chosen.sample(pairs, 6)))

    def check(self, order):
        wrong = self.first_wrong(order)
        if wrong is None:
            self.assertEqual(self.made(order=order).order, order)
        else:
            self.assert_raises(BadPair, wrong, order=order)


class WrongModels(Errors):
    def only(self, *models):
        return {"models": models, "states": (((0, 0),),), "start": 0}

    def test_no_sequence(self):
        for models in NO_SEQUENCES:
            with self.subTest(models=models):
                self.assert_raises(BadValue, 3, models=models)
        self.assert_raises(BadValue, 3, models=self.made())

    def test_no_model(self):
        self.assert_raises(BadValue, 3, models=())
        self.assert_raises(BadValue, 3, models=[])

    def test_8_models_are_fine_and_9_too_many(self):
        self.assertEqual(self.made(models=((0,),) * 8).models, ((0,),) * 8)
        self.assertEqual(self.made(models=[()] * 8).models, ((),) * 8)
        for many in (9, 10, 20000):
            self.assert_raises(TooMany, "models", models=((0,),) * many)

    def test_too_many_comes_ahead_of_wrong_models(self):
        self.assert_raises(TooMany, "models", models=(None,) * 9)
        self.assert_raises(TooMany, "models", models=((0,),) * 8 + ((1, 0),))
        self.assert_raises(BadModel, 7, models=((0,),) * 7 + ((1, 0),))

    def test_models_that_are_no_sequences(self):
        for model in NO_SEQUENCES:
            with self.subTest(model=model):
                self.assert_raises(BadModel, 0, **self.only(model))
                self.assert_raises(BadModel, 1, **self.only((0, 1), model))

    def test_an_empty_model_is_fine(self):
        self.assertEqual(self.made(**self.only(())).models, ((),))
        self.assertEqual(self.made(**self.only([], [])).models, ((), ()))

    def test_models_are_ascending(self):
        for model in ((1, 0), (0, 2, 1), (0, 0), (3, 3), (0, 1, 1), (0, 1, 2, 3, 3), (3, 2, 1, 0), [0, 1, 0],
                      (1, 2, 0), (0,) * 19000):
            with self.subTest(model=model):
                self.assert_raises(BadModel, 0, **self.only(model))
        for model in ((0,), (3,), (0, 1), (0, 3), (1, 3), (0, 1, 2, 3), (1, 2, 3)):
            with self.subTest(model=model):
                self.assertEqual(self.made(**self.only(model)).models, (model,))
                self.assertEqual(self.made(**self.only(list(model))).models, (model,))

    def test_tasks_that_are_no_numbers_of_tasks(self):
        for task in NO_INTEGERS + (-1, -2, 4, 5, HUGE, -HUGE):
            with self.subTest(task=task):
                self.assert_raises(BadModel, 0, **self.only((task,)))
                self.assert_raises(BadModel, 0, **self.only([task, 3]))
                self.assert_raises(BadModel, 0, **self.only((0, task)))

    def test_the_last_of_24_tasks(self):
        tasks = ((1, 2),) * 24
        self.assertEqual(self.made(tasks=tasks, **self.only((23,))).models, ((23,),))
        self.assertEqual(self.made(tasks=tasks, **self.only(range_tuple(24))).models, (range_tuple(24),))
        self.assert_raises(BadModel, 0, tasks=tasks, **self.only((24,)))
        self.assert_raises(BadModel, 0, tasks=tasks, **self.only(range_tuple(25)))

    def test_models_may_be_equal(self):
        self.assertEqual(self.made(models=((0, 1), (0, 1), (0, 1))).models, ((0, 1), (0, 1), (0, 1)))

    def test_the_first_wrong_model_is_told(self):
        for at in range(8):
            models = [(0,)] * 8
            models[at] = (1, 0)
            self.assert_raises(BadModel, at, models=models)
            for behind in range(at + 1, 8):
                models[behind] = None
            self.assert_raises(BadModel, at, models=models)


def range_tuple(many):
    return tuple(range(many))


class WrongStates(Errors):
    def only(self, *states):
        return {"states": states, "start": 0}

    def test_no_sequence(self):
        for states in NO_SEQUENCES:
            with self.subTest(states=states):
                self.assert_raises(BadValue, 4, states=states)
        self.assert_raises(BadValue, 4, states=self.made())

    def test_no_state(self):
        self.assert_raises(BadValue, 4, states=())
        self.assert_raises(BadValue, 4, states=[])

    def test_60_states_are_fine_and_61_too_many(self):
        self.assertEqual(self.made(states=(((0, 59),),) * 60).states, (((0, 59),),) * 60)
        for many in (61, 62, 20000):
            self.assert_raises(TooMany, "states", states=(((0, 0),),) * many)

    def test_too_many_comes_ahead_of_wrong_states(self):
        self.assert_raises(TooMany, "states", states=(None,) * 61)
        self.assert_raises(TooMany, "states", states=((),) * 61)
        self.assert_raises(BadState, 59, states=(((0, 0),),) * 59 + ((),))

    def test_states_that_are_no_sequences(self):
        for state in NO_SEQUENCES:
            with self.subTest(state=state):
                self.assert_raises(BadState, 0, **self.only(state))
                self.assert_raises(BadState, 1, **self.only(((0, 0),), state))

    def test_a_state_without_an_arc(self):
        for state in ((), []):
            self.assert_raises(BadState, 0, **self.only(state))
            self.assert_raises(BadState, 2, **self.only(((0, 0),), ((0, 1),), state))

    def test_40_arcs_are_fine_and_41_wrong(self):
        arcs = [(model, follower) for model in range(3) for follower in range(20)]
        others = [((0, 0),)] * 19
        self.assertEqual(self.made(**self.only(arcs[:40], *others)).states[0], tuple(arcs[:40]))
        for many in (41, 42, 60):
            self.assert_raises(BadState, 0, **self.only(arcs[:many], *others))
            self.assert_raises(BadState, 19, **self.only(*others, arcs[:many]))

    def test_very_many_arcs(self):
        self.assert_raises(BadState, 0, **self.only(((0, 0),) * 9000))

    def test_arcs_that_are_no_pairs(self):
        for arc in NO_SEQUENCES + ((), [], (0,), [0], (0, 0, 0), [0, 0, 0], ((0, 0),), deep(37)):
            with self.subTest(arc=arc):
                self.assert_raises(BadState, 0, **self.only((arc,)))
                self.assert_raises(BadState, 0, **self.only(((0, 0), arc)))

    def test_models_that_are_not_there(self):
        for model in NO_INTEGERS + (-1, -2, -3, 3, 4, HUGE, -HUGE):
            with self.subTest(model=model):
                self.assert_raises(BadState, 0, **self.only(((model, 0),)))
                self.assert_raises(BadState, 1, **self.only(((0, 0),), ((0, 1), (model, 0))))
        self.assertEqual(self.made(**self.only(((2, 0),))).states, (((2, 0),),))

    def test_arcs_to_nowhere(self):
        for follower in NO_INTEGERS + (-1, -2, 2, 3, HUGE, -HUGE):
            with self.subTest(follower=follower):
                self.assert_raises(BadState, 0, **self.only(((0, follower),), ((0, 0),)))
                self.assert_raises(BadState, 1, **self.only(((0, 0),), ((0, 1), (0, follower))))
        states = (((0, 1),), ((0, 0),))
        self.assertEqual(self.made(**self.only(*states)).states, states)

    def test_an_arc_twice(self):
        for state in (((0, 0), (0, 0)), ((0, 0), [0, 0]), ([0, 0], (0, 0)), ((0, 0), (1, 0), (0, 0)),
                      ((2, 0), (1, 0), (0, 0), (1, 0))):
            with self.subTest(state=state):
                self.assert_raises(BadState, 0, **self.only(state))
                self.assert_raises(BadState, 1, **self.only(((0, 0),), state))

    def test_arcs_that_share_their_model_or_their_next_are_fine(self):
        states = (((0, 0), (0, 1), (1, 0), (1, 1)), ((0, 0), (0, 1)))
        self.assertEqual(self.made(**self.only(*states)).states, states)

    def test_arcs_of_equal_models_are_not_equal(self):
        line = self.made(models=((0,), (0,)), **self.only(((0, 0), (1, 0))))
        self.assertEqual(line.states, (((0, 0), (1, 0)),))

    def test_states_may_be_equal_and_never_reached(self):
        states = (((0, 0),), ((0, 0),), ((0, 0),))
        self.assertEqual(self.made(**self.only(*states)).states, states)

    def test_the_first_wrong_state_is_told(self):
        for at in (0, 1, 30, 58, 59):
            states = [((0, 0),)] * 60
            states[at] = ((0, 60),)
            self.assert_raises(BadState, at, states=states)
            for behind in range(at + 1, 60):
                states[behind] = ()
            self.assert_raises(BadState, at, states=states)


class WrongStartAndSlips(Errors):
    def test_start(self):
        for start in NO_INTEGERS + (-1, -2, -3, 3, 4, HUGE, -HUGE, self.made()):
            with self.subTest(start=start):
                self.assert_raises(BadValue, 5, start=start)
        for start in (0, 1, 2):
            self.assertEqual(self.made(start=start).start, start)

    def test_start_in_one_state(self):
        self.assert_raises(BadValue, 5, states=(((0, 0),),), start=1)
        self.assert_raises(BadValue, 5, states=(((0, 0),),), start=False)
        self.assert_raises(BadValue, 5, start=True)

    def test_the_last_of_60_states(self):
        states = (((0, 0),),) * 60
        self.assertEqual(self.made(states=states, start=59).start, 59)
        self.assert_raises(BadValue, 5, states=states, start=60)

    def test_slips(self):
        for slips in NO_INTEGERS[1:] + (-1, 9, 10, 24, HUGE, -HUGE, "None", self.made()):
            with self.subTest(slips=slips):
                self.assert_raises(BadValue, 6, slips=slips)
        for slips in (None, 0, 1, 2, 3, 4, 5, 6, 7, 8):
            self.assertEqual(self.made(slips=slips).slips, slips)


class TheOrderOfErrors(Errors):
    FAULTS = (
        ("tasks", None, BadValue, 1),
        ("tasks", (), BadValue, 1),
        ("tasks", (None,) * 25, TooMany, "tasks"),
        ("tasks", TASKS[:3] + ((8, 7),), BadTask, 3),
        ("order", None, BadValue, 2),
        ("order", ((0, 0),) * 201, TooMany, "pairs"),
        ("order", ((0, 1), (1, 0)), BadPair, 1),
        ("models", None, BadValue, 3),
        ("models", [], BadValue, 3),
        ("models", ((1, 0),) * 9, TooMany, "models"),
        ("models", MODELS[:2] + ((1, 0),), BadModel, 2),
        ("states", None, BadValue, 4),
        ("states", [], BadValue, 4),
        ("states", ((),) * 61, TooMany, "states"),
        ("states", (((0, 0), (0, 0)),), BadState, 0),
        ("start", None, BadValue, 5),
        ("slips", True, BadValue, 6),
    )

    def test_each_alone(self):
        for name, value, error, kept in self.FAULTS:
            with self.subTest(name=name, error=error.__name__):
                self.assert_raises(error, kept, **{name: value})

    def test_of_two_the_one_that_is_told_first(self):
        for first, second in itertools.combinations(self.FAULTS, 2):
            if first[0] != second[0]:
                with self.subTest(first=first[0], second=second[0]):
                    self.assert_raises(first[2], first[3], **{second[0]: second[1], first[0]: first[1]})

    def test_of_all_the_first(self):
        names = ("tasks", "order", "models", "states", "start", "slips")
        for at, name in enumerate(names):
            told = {later: None if later != "slips" else -1 for later in names[at:]}
            self.assert_raises(BadValue, at + 1, **told)

    def test_the_largest_line(self):
        pairs = all_pairs(24)[:200]
        models = tuple(tuple(range(first, 24)) for first in range(8))
        state = tuple((model, follower) for model in range(8) for follower in range(0, 60, 12))
        line = self.made(tasks=((0, 10000),) * 24, order=pairs, models=models, states=(state,) * 60, start=59, slips=8)
        self.assertEqual(len(state), 40)
        self.assertEqual((line.tasks, line.order, line.models), (((0, 10000),) * 24, pairs, models))
        self.assertEqual((line.states, line.start, line.slips), ((state,) * 60, 59, 8))


if __name__ == "__main__":
    unittest.main()
