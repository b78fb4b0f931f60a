"""Point 36 and guarantee 6: refutation_holds."""

import itertools
import unittest

from anyrowline import refuting
from anyrowline.choices import best_beat, best_plan, fewest_stations
from anyrowline.lines import Line, free_line
from anyrowline.moves import fewest_moves
from anyrowline.refuting import refutation_holds
from trials import (HUGE, NO_INTEGERS, NO_SEQUENCES, ODD_VALUES, SMALL, Trial, all_plans, changed_parts, deep,
                    does_refute, is_kept, listed, parts_in, random_line, replaced, some)

# Tasks 0 and 1 take 5 each, task 2 takes 3 and 7 when it slips; the order puts 2 ahead of 0.
LINE = Line(((5, 5), (5, 5), (3, 7)), ((2, 0),), ((0, 1, 2), (2,)), (((0, 0), (1, 1)), ((1, 0),)), 0, slips=1)
OVER = ((0, ()),)
SLIPPED = ((0, (2,)),)
ROUND = ((), ((0, ()),))
WRONG_WINDOWS = [(), [], (0,) * 25, (0, -1), (0, 300001), (0, None), (0, True), (0, "0"), ((0, 0),), (HUGE,),
                 *[value for value in ODD_VALUES if value not in ((0,), [0])]]
WRONG_BEATS = [300001, -1, HUGE, -HUGE, SMALL, *NO_INTEGERS]
WRONG_OLDS = [(0, 0), (0, 0, 0, 0), (0, 0, 24), (0, -2, 0), (0, None, 0), (True, 0, 0), ("0", 0, 0), (0, 0, HUGE),
              *[value for value in ODD_VALUES if value is not None]]
WRONG_MOSTS = [-2, 25, HUGE, -HUGE, SMALL, *[value for value in NO_INTEGERS if value is not None]]


def assign(task, *branches):
    return ("assign", task, branches)


def below(end, stations, windows, other=None):
    """A tree with the end behind a way on which task 0, 1, ... has this station; None: it's not assigned.

    All other ends are the other one; without it they are rows that overflow with a beat and windows of 0.
    """
    tree = end
    for task, station in enumerate(stations):
        if station is not None:
            ends = [other or ("row", at, OVER) for at in range(windows)]
            tree = assign(task, *ends[:station], tree, *ends[station + 1:])
    return tree


class Refuting(Trial):
    def assert_told(self, is_held, line, windows, beat, tree, old=None, most=None):
        """The tree holds or not, as a second way says too, also with lists in place of tuples."""
        self.assertIs(does_refute(line, windows, beat, tree, old, most), is_held)
        self.assertIs(refutation_holds(line, windows, beat, tree, old=old, most=most), is_held)
        others = [listed(value) for value in (windows, tree, old)]
        self.assertIs(refutation_holds(line, others[0], beat, others[1], old=others[2], most=most), is_held)

    def assert_holds(self, *arguments):
        self.assert_told(True, *arguments)

    def assert_fails(self, *arguments):
        self.assert_told(False, *arguments)


class Assign(Refuting):
    TREE = assign(0, assign(1, ("row", 0, OVER), assign(2, ("row", 0, OVER), ("order", 2, 0))),
                  assign(2, assign(1, ("row", 0, OVER), ("row", 1, OVER)), ("row", 1, OVER)))

    def test_a_whole_tree(self):
        # With windows of 2 and a beat of 5 no two tasks fit at one station.
        self.assert_holds(LINE, (2, 2), 5, self.TREE)
        self.assert_holds(LINE, (0, 2), 5, self.TREE)
        self.assert_fails(LINE, (3, 2), 5, self.TREE)
        self.assert_fails(LINE, (2, 3), 5, self.TREE)
        self.assert_fails(LINE, (2, 2), 6, self.TREE)
        self.assert_fails(LINE, (2,), 5, self.TREE)
        self.assert_fails(LINE, (2, 2, 2), 5, self.TREE)

    def test_exactly_one_branch_for_each_window(self):
        both = (("row", 0, OVER), ("row", 1, OVER))
        line = free_line(((5, 5),), (), ((0,),))
        self.assert_holds(line, (0, 0), 4, ("assign", 0, both))
        for branches in ((), both[:1], both[1:], both + both[:1], both + both, both[::-1], (both,)):
            self.assert_fails(line, (0, 0), 4, ("assign", 0, branches))
        self.assert_holds(line, (0,), 4, ("assign", 0, both[:1]))
        self.assert_fails(line, (0,), 4, ("assign", 0, both))

    def test_no_task_twice_on_a_way(self):
        line = free_line(((5, 5), (4, 4)), (), ((0, 1),))
        self.assert_holds(line, (0,), 4, assign(0, ("row", 0, OVER)))
        self.assert_fails(line, (0,), 4, assign(0, assign(0, ("row", 0, OVER))))
        self.assert_fails(line, (0,), 4, assign(0, assign(1, assign(0, ("row", 0, OVER)))))
        self.assert_holds(line, (0,), 4, assign(1, assign(0, ("row", 0, OVER))))

    def test_a_task_on_several_ways(self):
        # In the one branch task 1 comes next, in the other one task 2; the task is free again behind a branch.
        line = free_line(((5, 5), (4, 4), (4, 4)), (), ((0, 1, 2),))
        ends = (("row", 0, OVER), ("row", 1, OVER))
        tree = assign(0, assign(1, ends[0], assign(2, *ends)), assign(2, assign(1, *ends), ends[1]))
        self.assert_holds(line, (0, 0), 7, tree)
        self.assert_fails(line, (0, 0), 8, tree)
        tree = assign(0, assign(1, ends[0], assign(2, *ends)), assign(1, assign(2, *ends), ends[1]))
        self.assert_holds(line, (0, 0), 7, tree)

    def test_tasks_that_there_are_not(self):
        line = free_line(((5, 5), (4, 4)), (), ((0, 1),))
        for task in (2, -1, -2, HUGE, None, True, False, "0", (0,), (), SMALL):
            self.assert_fails(line, (0,), 3, assign(task, assign(0, ("row", 0, OVER))))
            self.assert_fails(line, (0,), 3, assign(0, assign(task, ("row", 0, OVER))))

    def test_24_tasks_on_one_way(self):
        line = free_line(((1, 1),) * 24, (), (tuple(range(24)),))
        tree = ("row", 0, OVER)
        for task in range(24):
            tree = assign(task, tree)
        self.assert_holds(line, (0,), 23, tree)
        self.assert_fails(line, (0,), 24, tree)
        self.assert_fails(line, (0,), 23, tree[2][0])
        self.assert_fails(line, (0,), 0, assign(5, tree))


class Order(Refuting):
    def assert_end(self, is_held, order, end, stations):
        """By the way down, tasks 0, 1, ... have these stations; None stands for one that isn't assigned."""
        line = free_line(((9, 9),) * 4, order, ((0, 1, 2, 3),))
        self.assert_told(is_held, line, (0, 0, 0), 0, below(end, stations, 3))

    def test_both_assigned_and_before_is_greater(self):
        order = ((0, 1), (2, 3))
        for first, second in itertools.product((None, 0, 1, 2), repeat=2):
            is_held = None not in (first, second) and first > second
            self.assert_end(is_held, order, ("order", 0, 1), (first, second, None, None))
            self.assert_end(is_held, order, ("order", 2, 3), (None, None, first, second))
            self.assert_end(False, order, ("order", 1, 0), (first, second, None, None))
            self.assert_end(False, order, ("order", 0, 3), (first, None, None, second))
            self.assert_end(False, order, ("order", 2, 1), (None, second, first, None))

    def test_a_pair_of_the_order_itself_no_chain_of_them(self):
        self.assert_end(True, ((0, 1), (1, 2)), ("order", 0, 1), (2, 1, 0, None))
        self.assert_end(True, ((0, 1), (1, 2)), ("order", 1, 2), (2, 1, 0, None))
        self.assert_end(False, ((0, 1), (1, 2)), ("order", 0, 2), (2, 1, 0, None))

    def test_what_is_no_pair(self):
        stations = (2, 1, 0, 0)
        self.assert_end(True, ((0, 1),), ("order", 0, 1), stations)
        for end in (("order", False, True), ("order", 0, True), ("order", False, 1), ("order", "0", "1"),
                    ("order", (0, 1)), ("order", 0, 1, 1), ("order", 0), ("order",), ("order", (0,), (1,)),
                    ("order", [0], [1]), ("order", 0, None), ("order", -4, 1), ("order", 0, -3), ("order", 0, 4),
                    ("order", 0, HUGE), ("orders", 0, 1), ("Order", 0, 1), (0, 1), ("pair", 0, 1), "order", None):
            self.assert_end(False, ((0, 1),), end, stations)

    def test_a_whole_tree(self):
        line = free_line(((5, 5), (5, 5)), ((1, 0),), ((0, 1),))
        tree = assign(0, assign(1, ("row", 0, OVER), ("order", 1, 0)), assign(1, ("loop", 0, ROUND), ("row", 1, OVER)))
        self.assert_holds(line, (0, 4), 4, tree)
        self.assert_fails(line, (0, 6), 4, tree)
        self.assert_fails(free_line(((5, 5), (5, 5)), ((0, 1),), ((0, 1),)), (0, 4), 4, tree)
        self.assert_fails(free_line(((5, 5), (5, 5)), (), ((0, 1),)), (0, 4), 4, tree)


class Rows(Refuting):
    def test_only_tasks_of_the_way_and_station_count(self):
        # At station 0 tasks 0 and 1 take 10 together; of task 2, which takes 3, it is not known.
        line = free_line(LINE.tasks, (), LINE.models, slips=1)
        for stations, load in (((0, 0, None), 10), ((0, 0, 1), 10), ((0, 0, 0), 13), ((0, None, 0), 8), ((0, 1, 1), 5),
                               ((1, None, 1), 0), ((None, None, None), 0), ((None, 0, None), 5)):
            for station, there in ((0, load), (1, sum((5, 5, 3)[at] for at in range(3) if stations[at] == 1))):
                for beat in (0, 3, 4, 5, 7, 8, 9, 10, 12, 13):
                    tree = below(("row", station, OVER), stations, 2, ("moved", ()))
                    self.assert_told(beat < there, line, (0, 0), beat, tree, (0, 0, 0), -1)

    def test_slips_of_tasks_elsewhere_add_nothing(self):
        line = free_line(LINE.tasks, (), LINE.models, slips=1)
        self.assert_holds(line, (0,), 11, assign(0, assign(2, ("row", 0, SLIPPED))))
        self.assert_fails(line, (0,), 12, assign(0, assign(2, ("row", 0, SLIPPED))))
        self.assert_holds(line, (0,), 9, assign(0, assign(1, ("row", 0, SLIPPED))))
        self.assert_fails(line, (0,), 10, assign(0, assign(1, ("row", 0, SLIPPED))))

    def test_rows_that_only_overflow_with_what_is_not_assigned(self):
        line = free_line(LINE.tasks, (), ((0, 1, 2),), slips=1)
        self.assert_fails(line, (0,), 4, ("row", 0, OVER))
        self.assert_fails(line, (0,), 0, ("row", 0, OVER))
        self.assert_fails(line, (0,), 5, assign(0, ("row", 0, OVER)))
        self.assert_holds(line, (0,), 4, assign(0, ("row", 0, OVER)))
        self.assert_fails(line, (0,), 0, assign(0, ("row", 0, ())))
        self.assert_fails(line, (0, 0), 4, assign(0, ("row", 0, OVER), ("row", 0, OVER)))
        self.assert_holds(line, (0, 0), 4, assign(0, ("row", 0, OVER), ("row", 1, OVER)))

    def test_the_window_of_the_station_counts(self):
        line = free_line(((9, 9),), (), ((0,),))
        tree = assign(0, ("row", 0, OVER), ("row", 1, OVER))
        self.assert_holds(line, (3, 4), 4, tree)
        self.assert_fails(line, (3, 5), 4, tree)
        self.assert_fails(line, (5, 4), 4, tree)

    def test_stations_without_a_window(self):
        line = free_line(((9, 9),), (), ((0,),))
        for station in (1, -1, 23, 24, HUGE, None, True, False, "0", (0,), (), [0], SMALL):
            self.assert_fails(line, (0,), 4, assign(0, ("row", station, OVER)))
            self.assert_fails(line, (0,), 4, assign(0, ("loop", station, ROUND)))

    def test_rows_that_are_not_allowed(self):
        line = Line(((5, 9),), (), ((0,), ()), (((0, 1),), ((1, 0),)), 0, slips=1)
        fine = (((0, ()),), ((0, ()), (0, ()), (0, ())), ((0, (0,)), (0, ()), (0, ())))
        for row in fine:
            self.assert_holds(line, (0,), 4, assign(0, ("row", 0, row)))
            self.assert_fails(line, (0,), 9, assign(0, ("row", 0, row)))
            self.assert_fails(line, (0,), 4, assign(0, ("row", 0, row + ((0, ()),))))
            self.assert_fails(line, (0,), 4, assign(0, ("row", 0, row[1:])))
        for row in (((0, (0,)), (0, ()), (0, (0,))), ((1, ()),), ((-1, ()),), ((0, (1,)),), ((0, (0, 0)),),
                    ((0, ()), (0, (0,)), (0, ())), ((False, ()),), ((0, (False,)),), *ODD_VALUES):
            # A row like those that hold is none of the odd values.
            if not does_refute(line, (0,), 4, assign(0, ("row", 0, row))):
                self.assert_fails(line, (0,), 4, assign(0, ("row", 0, row)))
        self.assert_fails(line, (0,), 4, assign(0, ("row", 0, (0, ()))))

    def test_the_last_piece_overflows(self):
        line = Line(((5, 5),), (), ((0,), ()), (((0, 0), (1, 0)),), 0)
        self.assert_holds(line, (1,), 4, assign(0, ("row", 0, ((0, ()), (0, ())))))
        self.assert_fails(line, (1,), 4, assign(0, ("row", 0, ((0, ()), (0, ()), (1, ())))))


class Loops(Refuting):
    LINE = Line(((5, 8), (1, 1)), (), ((0, 1), ()), (((0, 1),), ((0, 1), (1, 0))), 0, slips=1)

    def test_loops(self):
        head, body = ((0, ()),), ((0, ()),)
        for what, less in (((head, body), 5), ((head * 2, body * 3), 5), ((head, ((1, ()), (0, ()))), 2),
                           (((), ((0, ()), (1, ()))), 2), ((((0, (0,)),), body), 5)):
            for windows in ((0,), (300000,)):
                self.assert_holds(self.LINE, windows, less - 1, assign(0, ("loop", 0, what)))
                self.assert_fails(self.LINE, windows, less + 1, assign(0, ("loop", 0, what)))
        self.assert_holds(self.LINE, (0,), 5, assign(0, assign(1, ("loop", 0, (head, body)))))
        self.assert_fails(self.LINE, (0,), 5, assign(0, ("loop", 0, (head, body))))
        self.assert_fails(self.LINE, (0,), 6, assign(0, assign(1, ("loop", 0, (head, body)))))
        self.assert_fails(self.LINE, (0,), 4, ("loop", 0, (head, body)))

    def test_what_is_no_loop(self):
        piece, other = (0, ()), (1, ())
        for what in (((), (piece,)), ((piece,), ()), ((), ()), ((piece,),), ((piece,), (piece,), ()), (piece,),
                     ((piece,), (other,)), ((other,), (piece,)), ((piece,), ((0, (0,)),)), ((piece,), piece),
                     (((0, (0,)),), ((0, (0,)),)), ((piece,), None), (None, (piece,)), ("", (piece,)), *ODD_VALUES):
            self.assert_fails(self.LINE, (0,), 0, assign(0, ("loop", 0, what)))

    def test_slips_in_the_body_if_there_are_any_number_of_them(self):
        line = Line(self.LINE.tasks, (), self.LINE.models, self.LINE.states, 0, slips=None)
        self.assert_holds(line, (0,), 7, assign(0, ("loop", 0, (((0, ()),), ((0, (0,)),)))))
        self.assert_fails(line, (0,), 8, assign(0, ("loop", 0, (((0, ()),), ((0, (0,)),)))))

    def test_rows_and_loops_are_told_apart(self):
        line = free_line(((5, 5),), (), ((0,),))
        self.assert_holds(line, (0,), 4, assign(0, ("row", 0, OVER)))
        self.assert_holds(line, (0,), 4, assign(0, ("loop", 0, ROUND)))
        for word, what in (("loop", OVER), ("row", ROUND), ("rows", OVER), ("", OVER), ("bounds", ((0,),)),
                           (None, OVER), (0, OVER), (("row",), OVER), (True, OVER)):
            self.assert_fails(line, (0,), 4, assign(0, (word, 0, what)))


class Moved(Refuting):
    LINE = free_line(((5, 5), (5, 5), (5, 5)), (), ((0, 1, 2),))

    def assert_end(self, is_held, stations, tasks, old, most):
        tree = below(("moved", tasks), stations, 3)
        self.assert_told(is_held, self.LINE, (0, 0, 0), 0, tree, old, most)

    def test_more_than_most_tasks(self):
        stations, old = (0, 1, 2), (1, 0, 0)
        for many in range(4):
            for tasks in itertools.combinations(range(3), many):
                for most in range(-1, 5):
                    self.assert_end(many > most, stations, tasks, old, most)

    def test_each_is_elsewhere_than_in_the_old_plan(self):
        for old in itertools.product((-1, 0, 1, 23), repeat=3):
            for tasks in ((0,), (1,), (0, 1), (0, 1, 2)):
                is_held = all((0, 1, 1)[task] != old[task] for task in tasks)
                self.assert_end(is_held, (0, 1, 1), tasks, old, 0)

    def test_each_is_assigned(self):
        for stations in itertools.product((None, 0, 1), repeat=3):
            for tasks in ((0,), (0, 2), (0, 1, 2)):
                is_held = all(stations[task] is not None for task in tasks)
                self.assert_end(is_held, stations, tasks, (-1, -1, -1), 0)
                self.assert_end(is_held, stations, tasks, (2, 2, 2), 0)

    def test_ascending(self):
        for tasks in ((1, 0), (0, 0), (0, 2, 1), (0, 1, 1), (2, 1, 0), (0, 3), (-1, 0), (0, 1, 2, 3), (False, 1),
                      (0, True), ("0",), ((0,),), (None,), ((), ()), (HUGE,), *NO_SEQUENCES):
            self.assert_end(False, (0, 0, 0), tasks, (1, 1, 1), 0)

    def test_whole_trees(self):
        tree = assign(0, assign(1, ("moved", (1,)), ("moved", (1,))), ("moved", (0,)))
        self.assert_holds(self.LINE, (0, 0), 300000, tree, (0, -1, 0), 0)
        self.assert_holds(self.LINE, (0, 0), 300000, tree, (0, 23, 0), 0)
        self.assert_holds(self.LINE, (0, 0), 300000, tree, (-1, 5, 0), -1)
        self.assert_fails(self.LINE, (0, 0), 300000, tree, (0, -1, 0), 1)
        self.assert_fails(self.LINE, (0, 0), 300000, tree, (0, 1, 0), 0)
        self.assert_fails(self.LINE, (0, 0), 300000, tree, (1, -1, 0), 0)
        self.assert_fails(self.LINE, (0, 0), 300000, tree)
        self.assert_fails(self.LINE, (0, 0), 300000, ("moved", (0,)), (1, 1, 1), 0)

    def test_without_a_task_at_all(self):
        self.assert_holds(self.LINE, (0,), 0, ("moved", ()), (0, 0, 0), -1)
        self.assert_fails(self.LINE, (0,), 0, ("moved", ()), (0, 0, 0), 0)
        self.assert_fails(self.LINE, (0,), 0, ("moved", ()))

    def test_forms(self):
        for end in (("moved",), ("moved", (), ()), ("moved", ((),)), ("Moved", ()), ("order", ()), ("assign", ()),
                    "moved", ("row", ()), (("moved",), ())):
            self.assert_fails(self.LINE, (0,), 0, end, (0, 0, 0), -1)

    def test_other_ends_hold_with_an_old_plan_too(self):
        tree = assign(0, ("row", 0, OVER))
        self.assert_holds(self.LINE, (0,), 4, tree, (0, 0, 0), 24)
        self.assert_holds(self.LINE, (0,), 4, tree, (0, 0, 0), -1)
        self.assert_fails(self.LINE, (0,), 5, tree, (0, 0, 0), 0)


class AnyValues(Refuting):
    def test_values_that_are_no_trees(self):
        for value in (*ODD_VALUES, HUGE, -HUGE, deep(40), tuple(deep(39)), "assign", ("assign",), ("assign", 0),
                      ("assign", 0, ()), ("assign", 0, None), ("assign", None, ()), ("assign", 0, "row"),
                      ("assign", 0, 0), ("assign", 0, "ab"), ("assign", 0, ((), ())), ("row", 0), ("row",),
                      ("loop", 0, None), ("row", 0, None), ("", ""), ("", "", ""), (0,) * 20000, "a" * 20000,
                      ("a",) * 50000, None, True, [[]], [[], [], []], (SMALL,), (SMALL, 0), (SMALL, 0, 0),
                      ("refutation", assign(0, ("row", 0, OVER))), ("assign", 0, (("row", 0, OVER),) * 2, 0)):
            for windows, old, most in (((0, 0), None, None), ((0,), (0, 0, 0), 0)):
                self.assertIs(refutation_holds(SMALL, windows, 0, value, old=old, most=most), False)

    def test_a_deep_value(self):
        value = ("row", 0, OVER)
        for _ in range(5000):
            value = ("assign", 0, (value,))
        self.assertIs(refutation_holds(SMALL, (0,), 0, value), False)
        value = ()
        for _ in range(5000):
            value = (value, value, value)
        self.assertIs(refutation_holds(SMALL, (0,), 0, value), False)
        self.assertIs(refutation_holds(SMALL, (0,), 0, ("assign", 0, value)), False)
        self.assertIs(refutation_holds(SMALL, (0,), 0, assign(0, ("row", 0, value))), False)
        self.assertIs(refutation_holds(SMALL, (0,), 0, assign(0, ("row", value, ()))), False)
        self.assertIs(refutation_holds(SMALL, (0,), 0, (value, 0, ())), False)


class Returned(Refuting):
    """All trees that are returned hold; what is changed in them holds just as a second way says."""

    def trees(self, chosen):
        """Lines with windows, a beat, a tree that is returned, an old plan and a number, or None for both."""
        line = random_line(chosen, tasks=4, states=3)
        windows = tuple(chosen.choice((0, 1, 3, 10, 40, 300000)) for _ in range(chosen.randint(1, 3)))
        beat, _, tree = best_beat(line, windows)
        found = [(line, windows, beat - 1, tree, None, None)] if beat else []
        less = max(0, beat - chosen.randint(1, 4))
        value = best_plan(line, windows, less)
        if value[0] == "refutation":
            found.append((line, windows, less, value[1], None, None))
        many, _, tree = fewest_stations(line, windows, beat)
        if many > 1:
            found.append((line, windows[:many - 1], beat, tree, None, None))
        tree = fewest_stations(line, windows, less)[2]
        if beat > less:
            found.append((line, windows, less, tree, None, None))
        old = tuple(chosen.randint(-1, len(windows)) for _ in line.tasks)
        for now in (less, beat, beat + 1, 300000):
            many, _, tree = fewest_moves(line, windows, now, old)
            if many is None:
                found.append((line, windows, now, tree, None, None))
            elif many > 0:
                found.append((line, windows, now, tree, old, many - 1))
        return found

    def test_they_hold(self):
        chosen = some(70)
        words = {"order": 0, "row": 0, "loop": 0, "moved": 0}
        for _ in range(150):
            for line, windows, beat, tree, old, most in self.trees(chosen):
                self.assert_plain(tree)
                self.assert_holds(line, windows, beat, tree, old, most)
                for word in words:
                    words[word] += word in repr(tree)
        self.assertGreater(min(words.values()), 50)

    def test_one_thing_is_changed(self):
        chosen = some(71)
        found = {True: 0, False: 0}
        for _ in range(60):
            for line, windows, beat, tree, old, most in self.trees(chosen):
                parts = parts_in(tree)
                for where, part in chosen.sample(parts, min(len(parts), 12)):
                    other = replaced(tree, where, chosen.choice(changed_parts(chosen, part)))
                    is_held = does_refute(line, windows, beat, other, old, most)
                    found[is_held] += 1
                    self.assertIs(refutation_holds(line, windows, beat, other, old=old, most=most), is_held)
        self.assertGreater(min(found.values()), 100)

    def test_another_beat_window_or_number(self):
        chosen = some(72)
        found = {True: 0, False: 0}
        for _ in range(80):
            for line, windows, beat, tree, old, most in self.trees(chosen):
                at = chosen.randrange(len(windows))
                more = windows[:at] + (windows[at] + 1 if windows[at] < 300000 else 0,) + windows[at + 1:]
                task = chosen.randrange(len(line.tasks))
                other = old and old[:task] + (chosen.randint(-1, 3),) + old[task + 1:]
                for arguments in ((line, windows, min(beat + 1, 300000), tree, old, most),
                                  (line, more, beat, tree, old, most), (line, windows, beat, tree, other, most),
                                  (line, windows, beat, tree, old, most and most - 1),
                                  (line, windows, beat, tree, old, most if most is None else most + 1)):
                    is_held = does_refute(*arguments)
                    found[is_held] += 1
                    self.assertIs(refutation_holds(*arguments[:4], old=arguments[4], most=arguments[5]), is_held)
        self.assertGreater(min(found.values()), 100)

    def test_if_one_holds_there_is_no_plan(self):
        chosen = some(73)
        for _ in range(80):
            for line, windows, beat, tree, old, most in self.trees(chosen):
                for plan in all_plans(line, len(windows)):
                    moved = sum(now != then for now, then in zip(plan, old or plan))
                    if moved <= (most or 0):
                        self.assertFalse(is_kept(line, plan, windows, beat))


class Errors(Trial):
    def called(self, line, windows, beat, tree, old, most):
        return refutation_holds(line, windows, beat, tree, old=old, most=most)

    def test_errors_without_an_old_plan(self):
        for windows in WRONG_WINDOWS:
            self.assert_bad(2, refutation_holds, SMALL, windows, -1, None, old=1, most=-2)
            self.assert_bad(2, refutation_holds, SMALL, windows, 0, None)
        for beat in WRONG_BEATS:
            self.assert_bad(3, refutation_holds, SMALL, (0,), beat, None, old=1, most=-2)
            self.assert_bad(3, refutation_holds, SMALL, (0,), beat, None)

    def test_old_plans(self):
        for old in WRONG_OLDS:
            for most in (None, 0, -2, "0"):
                self.assert_bad(5, refutation_holds, SMALL, (0,), 0, None, old=old, most=most)
        for old in ((-1, -1, -1), (23, 23, 23), [0, -1, 23]):
            self.assertIs(refutation_holds(SMALL, (0,), 0, None, old=old, most=0), False)

    def test_most(self):
        for most in WRONG_MOSTS:
            self.assert_bad(6, refutation_holds, SMALL, (0,), 0, None, old=(0, 0, 0), most=most)
            self.assert_bad(6, refutation_holds, SMALL, (0,), 0, None, most=most)
        for most in (-1, 0, 3, 24):
            self.assertIs(refutation_holds(SMALL, (0,), 0, None, old=(0, 0, 0), most=most), False)

    def test_both_or_neither(self):
        self.assertIs(refutation_holds(SMALL, (0,), 0, None), False)
        self.assertIs(refutation_holds(SMALL, (0,), 0, None, old=None, most=None), False)
        self.assert_bad(6, refutation_holds, SMALL, (0,), 0, None, old=(0, 0, 0))
        self.assert_bad(6, refutation_holds, SMALL, (0,), 0, None, old=(0, 0, 0), most=None)
        for most in (-1, 0, 24):
            self.assert_bad(6, refutation_holds, SMALL, (0,), 0, None, most=most)

    def test_the_order_of_errors(self):
        fine = {1: SMALL, 2: (0, 0), 3: 5, 4: None, 5: (0, 0, 0), 6: 1}
        self.assert_errors(self.called, fine, {2: WRONG_WINDOWS, 3: WRONG_BEATS, 5: WRONG_OLDS, 6: WRONG_MOSTS})

    def test_arguments_by_name(self):
        tree = best_beat(SMALL, (0, 0))[2]
        self.assertIs(refutation_holds(tree=tree, beat=6, windows=[0, 0], line=SMALL), True)
        self.assertIs(refutation_holds(most=0, old=[0, 0, 0], tree=tree, beat=6, windows=[0, 0], line=SMALL), True)

    def test_old_and_most_stand_by_name_only(self):
        with self.assertRaises(TypeError):
            refutation_holds(SMALL, (0, 0), 6, (), None, None)

    def test_it_stands_in_its_file(self):
        self.assertEqual(refuting.refutation_holds.__module__, "anyrowline.refuting")


if __name__ == "__main__":
    unittest.main()
