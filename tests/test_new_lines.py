"""Points 14, 19 and 20: with_slips, with_times, free_line and repeated."""

import copy
import itertools
import unittest

from anyrowline import lines
from anyrowline.errors import BadModel, BadPair, BadTask, BadValue, RowError, TooMany
from anyrowline.lines import Line, free_line, repeated, with_slips, with_times

TASKS = ((4, 4), (2, 5), (3, 3), (0, 7))
ORDER = ((0, 1), (1, 3))
MODELS = ((0, 1, 2), (0, 2), ())
STATES = (((0, 1), (2, 0)), ((1, 0),), ((0, 2), (1, 1)))
NAMES = ("tasks", "order", "models", "states", "start", "slips")

HUGE = 10 ** 30
NO_SEQUENCES = (None, True, False, 0, 1, 4, -1, HUGE, -HUGE, "", "a", "01", "0123", "\n", "a" * 20000)
NO_INTEGERS = (None, True, False, "", "0", "1", "a", (), [], (0,), [1], (0, 1), ((),))


def made(slips=3):
    return Line(TASKS, ORDER, MODELS, STATES, 1, slips=slips)


def six(line):
    return tuple(getattr(line, name) for name in NAMES)


class NewLines(unittest.TestCase):
    def assert_plain(self, value):
        if isinstance(value, tuple):
            self.assertIs(type(value), tuple)
            for part in value:
                self.assert_plain(part)
        else:
            self.assertIs(type(value), int)

    def assert_line(self, line, *told):
        self.assertIs(type(line), Line)
        self.assertEqual(six(line), told)
        self.assertEqual(line, Line(*told[:5], slips=told[5]))
        for name in ("tasks", "order", "models", "states", "start"):
            self.assert_plain(getattr(line, name))
        self.assertIs(type(line.slips), type(told[5]))

    def assert_raises(self, error, kept, function, *told, **named):
        before = copy.deepcopy((told, named))
        with self.assertRaises(RowError) as caught:
            function(*told, **named)
        self.assertIs(type(caught.exception), error)
        raised = caught.exception.word if error is TooMany else caught.exception.at
        self.assertEqual(raised, kept)
        self.assertEqual((told, named), before)


class WithSlips(NewLines):
    def test_the_line_with_these_slips(self):
        for old in (None, 0, 3, 8):
            for slips in (None, 0, 1, 2, 3, 4, 5, 6, 7, 8):
                with self.subTest(old=old, slips=slips):
                    line = made(old)
                    self.assert_line(with_slips(line, slips), TASKS, ORDER, MODELS, STATES, 1, slips)
                    self.assertEqual(six(line), (TASKS, ORDER, MODELS, STATES, 1, old))

    def test_wrong_slips(self):
        line = made()
        for slips in NO_INTEGERS[1:] + (-1, -8, 9, 10, HUGE, -HUGE, "None", line):
            with self.subTest(slips=slips):
                self.assert_raises(BadValue, 2, with_slips, line, slips)
        self.assertEqual(six(line), (TASKS, ORDER, MODELS, STATES, 1, 3))

    def test_arguments_by_name(self):
        self.assert_line(with_slips(slips=2, line=made()), TASKS, ORDER, MODELS, STATES, 1, 2)


class WithTimes(NewLines):
    TIMES = ((0, 0), (1, 10000), (10000, 10000), (5, 6))

    def test_the_line_with_these_tasks(self):
        for slips in (None, 0, 3, 8):
            line = made(slips)
            self.assert_line(with_times(line, self.TIMES), self.TIMES, ORDER, MODELS, STATES, 1, slips)
            self.assertEqual(six(line), (TASKS, ORDER, MODELS, STATES, 1, slips))

    def test_lists_that_are_changed_later(self):
        tasks = [list(task) for task in self.TIMES]
        line = with_times(made(), tasks)
        self.assertEqual(tasks, [list(task) for task in self.TIMES])
        tasks[0][0] = 77
        tasks[3].append(8)
        del tasks[1]
        self.assert_line(line, self.TIMES, ORDER, MODELS, STATES, 1, 3)

    def test_no_sequence(self):
        for tasks in NO_SEQUENCES + (made(),):
            with self.subTest(tasks=tasks):
                self.assert_raises(BadValue, 2, with_times, made(), tasks)

    def test_another_number_of_tasks(self):
        for many in (0, 1, 3, 5, 24, 25, 20000):
            with self.subTest(many=many):
                self.assert_raises(BadValue, 2, with_times, made(), ((1, 2),) * many)
                self.assert_raises(BadValue, 2, with_times, made(), [None] * many)

    def test_one_task_and_24(self):
        one = Line(((1, 2),), (), ((0,),), (((0, 0),),), 0)
        self.assert_line(with_times(one, [[3, 4]]), ((3, 4),), (), ((0,),), (((0, 0),),), 0, 0)
        self.assert_raises(BadValue, 2, with_times, one, ())
        self.assert_raises(BadValue, 2, with_times, one, ((3, 4), (3, 4)))
        all_24 = Line(((1, 2),) * 24, (), ((0,),), (((0, 0),),), 0)
        self.assertEqual(with_times(all_24, ((3, 4),) * 24).tasks, ((3, 4),) * 24)
        self.assert_raises(BadValue, 2, with_times, all_24, ((3, 4),) * 25)
        self.assert_raises(BadValue, 2, with_times, all_24, ((3, 4),) * 23)

    def test_wrong_tasks(self):
        wrong = NO_SEQUENCES + ((), (1,), (1, 1, 1), (2, 1), (-1, 0), (0, 10001), (10001, 10001), (True, 2),
                                (0, True), (False, 2), (None, 1), (1, None), ("1", 2), (1, "2"), (0, HUGE),
                                (-HUGE, 0), [[1], 2])
        for task in wrong:
            for at in range(4):
                with self.subTest(task=task, at=at):
                    tasks = list(self.TIMES)
                    tasks[at] = task
                    self.assert_raises(BadTask, at, with_times, made(), tasks)

    def test_the_first_wrong_task_is_told(self):
        self.assert_raises(BadTask, 1, with_times, made(), ((1, 2), (2, 1), None, (2, 1)))
        self.assert_raises(BadTask, 0, with_times, made(), (None, (2, 1), None, (2, 1)))

    def test_arguments_by_name(self):
        self.assert_line(with_times(tasks=self.TIMES, line=made()), self.TIMES, ORDER, MODELS, STATES, 1, 3)


class FreeLine(NewLines):
    def test_every_model_may_come(self):
        self.assert_line(free_line(TASKS, ORDER, MODELS), TASKS, ORDER, MODELS, (((0, 0), (1, 0), (2, 0)),), 0, 0)
        self.assert_line(free_line(((0, 0),), (), ((),)), ((0, 0),), (), ((),), (((0, 0),),), 0, 0)

    def test_each_number_of_models(self):
        for many in range(1, 9):
            models = ((0,),) * many
            state = tuple((model, 0) for model in range(many))
            self.assert_line(free_line(TASKS, (), models), TASKS, (), models, (state,), 0, 0)

    def test_slips(self):
        for slips in (None, 0, 1, 5, 8):
            self.assert_line(free_line(TASKS, ORDER, MODELS, slips=slips), TASKS, ORDER, MODELS,
                             (((0, 0), (1, 0), (2, 0)),), 0, slips)
        with self.assertRaises(TypeError):
            free_line(TASKS, ORDER, MODELS, 3)

    def test_lists_that_are_changed_later(self):
        tasks, order, models = [[4, 4], (2, 5), [3, 3], (0, 7)], [(0, 1), [1, 3]], [[0, 1, 2], (0, 2), []]
        before = copy.deepcopy((tasks, order, models))
        line = free_line(tasks, order, models)
        self.assertEqual((tasks, order, models), before)
        tasks[0][1] = 5
        order[1].reverse()
        models[2].append(3)
        for told in (tasks, order, models):
            told.pop()
        self.assert_line(line, TASKS, ORDER, MODELS, (((0, 0), (1, 0), (2, 0)),), 0, 0)

    FAULTS = (
        ("tasks", (), BadValue, 1),
        ("tasks", ((1, 2),) * 25, TooMany, "tasks"),
        ("tasks", TASKS[:3] + ((8, 7),), BadTask, 3),
        ("order", None, BadValue, 2),
        ("order", ((0, 1),) * 201, TooMany, "pairs"),
        ("order", ((0, 1), (1, 3), (3, 0)), BadPair, 2),
        ("order", ((0, 1), (0, 1)), BadPair, 1),
        ("models", (), BadValue, 3),
        ("models", ((),) * 9, TooMany, "models"),
        ("models", ((),) * 20000, TooMany, "models"),
        ("models", ((0,), (0, 0)), BadModel, 1),
        ("models", ((4,),), BadModel, 0),
        ("slips", -1, BadValue, 6),
        ("slips", 9, BadValue, 6),
        ("slips", True, BadValue, 6),
        ("slips", False, BadValue, 6),
        ("slips", "0", BadValue, 6),
        ("slips", (), BadValue, 6),
    )

    def wrong(self, error, kept, **changes):
        told = {"tasks": TASKS, "order": ORDER, "models": MODELS}
        told.update(changes)
        self.assert_raises(error, kept, free_line, **told)

    def test_each_error(self):
        for name, value, error, kept in self.FAULTS:
            with self.subTest(name=name, error=error.__name__, kept=kept):
                self.wrong(error, kept, **{name: value})

    def test_no_sequences(self):
        for value in NO_SEQUENCES + (made(),):
            with self.subTest(value=value):
                self.wrong(BadValue, 1, tasks=value)
                self.wrong(BadValue, 2, order=value)
                self.wrong(BadValue, 3, models=value)

    def test_of_two_errors_the_one_that_is_told_first(self):
        for first, second in itertools.combinations(self.FAULTS, 2):
            if first[0] != second[0]:
                with self.subTest(first=first[:1] + first[2:], second=second[:1] + second[2:]):
                    self.wrong(first[2], first[3], **{second[0]: second[1], first[0]: first[1]})


class Repeated(NewLines):
    def test_the_states(self):
        line = repeated(made(), (1, 0, 2, 0))
        states = (((1, 1),), ((0, 2),), ((2, 3),), ((0, 0),))
        self.assert_line(line, TASKS, ORDER, MODELS, states, 0, 3)

    def test_one_model(self):
        for model in range(3):
            self.assert_line(repeated(made(), [model]), TASKS, ORDER, MODELS, (((model, 0),),), 0, 3)

    def test_two_models(self):
        self.assert_line(repeated(made(), (2, 2)), TASKS, ORDER, MODELS, (((2, 1),), ((2, 0),)), 0, 3)

    def test_40_models_are_fine_and_41_wrong(self):
        row = [at * at % 3 for at in range(40)]
        states = tuple(((row[at], (at + 1) % 40),) for at in range(40))
        self.assert_line(repeated(made(), row), TASKS, ORDER, MODELS, states, 0, 3)
        for many in (41, 42, 60, 20000):
            self.assert_raises(BadValue, 2, repeated, made(), (0,) * many)

    def test_slips_are_those_of_the_line(self):
        for slips in (None, 0, 1, 8):
            self.assert_line(repeated(made(slips), (0,)), TASKS, ORDER, MODELS, (((0, 0),),), 0, slips)

    def test_the_line_stays_as_it_is(self):
        line = made()
        repeated(line, (0, 1))
        self.assertEqual(six(line), (TASKS, ORDER, MODELS, STATES, 1, 3))

    def test_a_list_that_is_changed_later(self):
        row = [1, 0, 2]
        line = repeated(made(), row)
        self.assertEqual(row, [1, 0, 2])
        row[0] = 2
        row.pop()
        self.assert_line(line, TASKS, ORDER, MODELS, (((1, 1),), ((0, 2),), ((2, 0),)), 0, 3)

    def test_no_row(self):
        for row in NO_SEQUENCES + ((), [], made()):
            with self.subTest(row=row):
                self.assert_raises(BadValue, 2, repeated, made(), row)

    def test_wrong_models(self):
        for model in NO_INTEGERS + (-1, -3, 3, 4, HUGE, -HUGE):
            for row in ((model,), [model, 0], (0, model), (0, 1, model, 2)):
                with self.subTest(row=row):
                    self.assert_raises(BadValue, 2, repeated, made(), row)
        self.assert_raises(BadValue, 2, repeated, made(), (0,) * 39 + (3,))

    def test_a_line_of_one_model(self):
        line = free_line(TASKS, ORDER, ((1,),))
        self.assert_line(repeated(line, (0, 0)), TASKS, ORDER, ((1,),), (((0, 1),), ((0, 0),)), 0, 0)
        self.assert_raises(BadValue, 2, repeated, line, (0, 1))

    def test_arguments_by_name(self):
        self.assert_line(repeated(row=(0,), line=made()), TASKS, ORDER, MODELS, (((0, 0),),), 0, 3)


class Files(unittest.TestCase):
    def test_the_functions_stand_in_their_file(self):
        for name in ("with_slips", "with_times", "free_line", "repeated"):
            self.assertEqual(getattr(lines, name).__module__, "anyrowline.lines")


if __name__ == "__main__":
    unittest.main()
