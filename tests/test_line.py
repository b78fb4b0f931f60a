"""Points 14, 16 and 18: what a Line keeps, and its equality."""

import copy
import unittest

from anyrowline import lines
from anyrowline.lines import Line

TASKS = ((4, 4), (2, 5), (3, 3), (0, 7))
ORDER = ((0, 1), (1, 3))
MODELS = ((0, 1, 2), (0, 2), ())
STATES = (((0, 1), (2, 0)), ((1, 0),), ((0, 2), (1, 1)))
NAMES = ("tasks", "order", "models", "states", "start", "slips")


def made(tasks=TASKS, order=ORDER, models=MODELS, states=STATES, start=1, slips=3):
    return Line(tasks, order, models, states, start, slips=slips)


def six(line):
    return tuple(getattr(line, name) for name in NAMES)


def as_lists(value):
    return [as_lists(part) for part in value] if isinstance(value, tuple) else value


def spoil(value):
    """Change every list, at every level."""
    if isinstance(value, list):
        for part in value:
            spoil(part)
        value.reverse()
        value.append(99)


class LookAlike:
    """No Line, though it has all that a Line has."""

    def __init__(self, line):
        for name in NAMES:
            setattr(self, name, getattr(line, name))


class Kept(unittest.TestCase):
    def assert_plain(self, value):
        if isinstance(value, tuple):
            self.assertIs(type(value), tuple)
            for part in value:
                self.assert_plain(part)
        else:
            self.assertIs(type(value), int)

    def assert_all_plain(self, line):
        for name in ("tasks", "order", "models", "states", "start"):
            self.assert_plain(getattr(line, name))

    def test_what_is_told_is_kept(self):
        self.assertEqual(six(made()), (TASKS, ORDER, MODELS, STATES, 1, 3))
        self.assert_all_plain(made())

    def test_lists_are_kept_as_plain_tuples(self):
        line = made(as_lists(TASKS), as_lists(ORDER), as_lists(MODELS), as_lists(STATES))
        self.assertEqual(six(line), (TASKS, ORDER, MODELS, STATES, 1, 3))
        self.assert_all_plain(line)

    def test_lists_in_tuples_and_tuples_in_lists(self):
        line = made(([4, 4], (2, 5), [3, 3], (0, 7)), [(0, 1), [1, 3]], ([0, 1, 2], (0, 2), []),
                    [([0, 1], (2, 0)), [(1, 0)], ((0, 2), [1, 1])])
        self.assertEqual(six(line), (TASKS, ORDER, MODELS, STATES, 1, 3))
        self.assert_all_plain(line)

    def test_arguments_are_not_changed(self):
        told = [as_lists(part) for part in (TASKS, ORDER, MODELS, STATES)]
        before = copy.deepcopy(told)
        made(*told)
        self.assertEqual(told, before)

    def test_later_changes_have_no_effect(self):
        told = [as_lists(part) for part in (TASKS, ORDER, MODELS, STATES)]
        line = made(*told)
        spoil(told)
        self.assertEqual(six(line), (TASKS, ORDER, MODELS, STATES, 1, 3))

    def test_later_changes_of_one_inner_list_have_no_effect(self):
        task, pair, model, arc = [2, 5], [1, 3], [0, 2], [1, 1]
        state = [(0, 2), arc]
        line = made(((4, 4), task, (3, 3), (0, 7)), ((0, 1), pair), ((0, 1, 2), model, ()),
                    (STATES[0], STATES[1], state))
        spoil([task, pair, model, arc, state])
        self.assertEqual(six(line), (TASKS, ORDER, MODELS, STATES, 1, 3))

    def test_the_order_of_all_parts_is_kept(self):
        order = ((2, 3), (0, 1), (2, 1), (0, 3))
        models = ((1,), (0,), (1,), ())
        states = (((3, 1), (0, 0), (2, 1), (0, 1)), ((1, 0), (0, 1)))
        line = Line(((9, 9), (1, 2), (5, 8), (0, 0)), order, models, states, 0)
        self.assertEqual(six(line), (((9, 9), (1, 2), (5, 8), (0, 0)), order, models, states, 0, 0))

    def test_slips(self):
        for slips in (None, 0, 1, 2, 7, 8):
            with self.subTest(slips=slips):
                self.assertIs(type(made(slips=slips).slips), type(slips))
                self.assertEqual(made(slips=slips).slips, slips)

    def test_slips_are_0_if_they_are_not_told(self):
        line = Line(TASKS, ORDER, MODELS, STATES, 1)
        self.assertIs(type(line.slips), int)
        self.assertEqual(line.slips, 0)

    def test_the_least_line(self):
        line = Line(((0, 0),), (), ((),), (((0, 0),),), 0)
        self.assertEqual(six(line), (((0, 0),), (), ((),), (((0, 0),),), 0, 0))

    def test_arguments_by_name(self):
        line = Line(slips=3, start=1, states=STATES, models=MODELS, order=ORDER, tasks=TASKS)
        self.assertEqual(six(line), (TASKS, ORDER, MODELS, STATES, 1, 3))

    def test_slips_are_told_by_name_only(self):
        with self.assertRaises(TypeError):
            Line(TASKS, ORDER, MODELS, STATES, 1, 3)

    def test_line_stands_in_its_file(self):
        self.assertEqual(lines.Line.__module__, "anyrowline.lines")


class Equality(unittest.TestCase):
    def assert_same(self, first, second):
        self.assertIs(first == second, True)
        self.assertIs(second == first, True)
        self.assertIs(first != second, False)

    def assert_other(self, first, second):
        self.assertIs(first == second, False)
        self.assertIs(second == first, False)
        self.assertIs(first != second, True)

    def test_equal_lines(self):
        self.assert_same(made(), made())
        self.assert_same(made(), made(as_lists(TASKS), as_lists(ORDER), as_lists(MODELS), as_lists(STATES)))
        self.assert_same(made(slips=None), made(slips=None))
        self.assert_same(made(slips=0), Line(TASKS, ORDER, MODELS, STATES, 1))
        line = made()
        self.assert_same(line, line)

    def test_lines_that_differ_in_one(self):
        changes = (
            {"tasks": ((4, 4), (2, 5), (3, 3), (0, 6))},
            {"tasks": ((4, 4), (2, 5), (2, 3), (0, 7))},
            {"tasks": TASKS + ((1, 1),)},
            {"order": ()},
            {"order": ORDER[:1]},
            {"order": ((1, 3), (0, 1))},
            {"order": ((0, 1), (1, 2))},
            {"models": ((0, 1, 2), (0, 2), (3,))},
            {"models": ((0, 2), (0, 1, 2), ())},
            {"models": MODELS + ((),)},
            {"states": (((2, 0), (0, 1)), ((1, 0),), ((0, 2), (1, 1)))},
            {"states": (((0, 1), (2, 0)), ((1, 0),), ((0, 2), (1, 2)))},
            {"states": (((0, 1), (2, 0)), ((1, 0),), ((0, 2),))},
            {"states": STATES + (((0, 0),),)},
            {"start": 0},
            {"start": 2},
            {"slips": 2},
            {"slips": 0},
            {"slips": None},
        )
        for change in changes:
            with self.subTest(change=change):
                self.assert_other(made(), made(**change))

    def test_no_slips_are_not_any_number_of_slips(self):
        self.assert_other(made(slips=0), made(slips=None))
        self.assert_other(made(slips=1), made(slips=None))

    def test_other_values(self):
        line = made()
        others = (None, True, False, 0, 1, "", "line", (), [], (line,), [line], TASKS, six(line), list(six(line)),
                  object(), Line, LookAlike(line))
        for other in others:
            with self.subTest(other=other):
                self.assert_other(line, other)

    def test_within_sequences(self):
        self.assertIn(made(), [None, made()])
        self.assertNotIn(made(), [None, made(start=0), six(made())])


if __name__ == "__main__":
    unittest.main()
