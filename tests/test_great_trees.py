"""Points 36 and 39 with lines as large as they may be, and how long the calls take."""

import unittest

from anyrowline.choices import best_beat, best_plan
from anyrowline.lines import Line, free_line
from anyrowline.moves import fewest_moves
from anyrowline.refuting import refutation_holds
from anyrowline.safety import keeps, least_beat, safe
from test_greatest import Greatest, great_line, great_tasks
from trials import changed_parts, does_refute, listed, replaced, some


def ways_down(chosen, tree, many):
    """So many ways from the whole tree to a part of it that is a tree too, or to a part of an end."""
    found = []
    for _ in range(many):
        where, part = (), tree
        while type(part) is tuple and len(part) > 0 and chosen.random() < 0.9:
            at = 2 if part[0] == "assign" and chosen.random() < 0.9 else chosen.randrange(len(part))
            where, part = (*where, at), part[at]
        found.append((where, part))
    return found


class GreatTrees(Greatest):
    def refutes(self, line, windows, beat, tree, old=None, most=None):
        """What refutation_holds returns, if it does so in time."""
        return self.timed(lambda: refutation_holds(line, windows, beat, tree, old=old, most=most))

    def assert_moves(self, line, windows, beat, old):
        """What fewest_moves returns is in time and holds; returns the number."""
        many, plan, tree = self.timed(fewest_moves, line, windows, beat, old)
        if many is None:
            self.assertIs(self.refutes(line, windows, beat, tree), True)
            return None
        self.assertIs(keeps(line, plan, windows, beat), True)
        self.assertEqual(sum(now != then for now, then in zip(plan, old)), many)
        if many > 0:
            self.assertIs(self.refutes(line, windows, beat, tree, old, many - 1), True)
            self.assertIs(self.refutes(line, windows, beat, tree, old, many), False)
            self.assertIs(self.refutes(line, windows, beat, tree), False)
        return many


class Moves(GreatTrees):
    def test_2_to_the_18_plans(self):
        chosen = some(90)
        for tasks, stations, slips, is_equal in ((18, 2, 0, True), (15, 2, None, False), (14, 2, 8, False),
                                                 (9, 4, 0, True), (6, 8, None, False), (3, 24, 8, False)):
            times = [(5000, 5000) if is_equal else tuple(sorted((chosen.randint(1, 10000), chosen.randint(1, 10000))))
                     for _ in range(tasks)]
            line = free_line(times, (), (tuple(range(tasks)),), slips=slips)
            windows = (0,) * stations
            beat, plan, tree = self.timed(best_beat, line, windows)
            self.assertIs(self.refutes(line, windows, beat - 1, tree), True)
            other = tuple((station + 1) % stations for station in plan)
            for old in ((-1,) * tasks, (23,) * tasks, (0,) * tasks, plan, other):
                with self.subTest(tasks=tasks, stations=stations, slips=slips, old=old):
                    self.assertIsNone(self.assert_moves(line, windows, beat - 1, old))
                    many = self.assert_moves(line, windows, beat, old)
                    if old == plan:
                        self.assertEqual(many, 0)
                    # At station 23 there may be a window, but where there are fewer each task moves.
                    if stations < 24 and old[0] in (-1, 23):
                        self.assertEqual(many, tasks)
                        self.assertEqual(self.assert_moves(line, windows, 300000, old), tasks)

    def test_orders(self):
        chosen = some(91)
        for order in ([(task, task + 1) for task in range(17)], [(task // 2, task) for task in range(1, 18)]):
            line = free_line([(chosen.randint(1, 10000),) * 2 for _ in range(18)], order, (tuple(range(18)),))
            beat = self.timed(best_beat, line, (0, 3000))[0]
            for old in ((1,) * 9 + (0,) * 9, (0,) * 18, (-1, 0) * 9):
                self.assert_moves(line, (0, 3000), beat, old)
                self.assertIsNone(self.assert_moves(line, (0, 3000), beat - 1, old))

    def test_great_machines(self):
        chosen = some(92)
        for tasks, stations, slips, arcs in ((12, 2, 0, 1), (8, 2, 8, 1), (12, 2, None, 1), (3, 2, 8, 40),
                                             (6, 2, 0, 40), (24, 1, 8, 40)):
            models = [tuple(task for task in range(tasks) if chosen.random() < 0.7) for _ in range(8)]
            places = [(model, to) for model in range(8) for to in range(60)]
            states = [chosen.sample(places, arcs) if arcs > 1 else [(chosen.randrange(8), (at + 1) % 60)]
                      for at in range(60)]
            line = Line(great_tasks(chosen)[:tasks], (), models, states, 0, slips=slips)
            windows = tuple(chosen.randint(0, 20000) for _ in range(stations))
            with self.subTest(tasks=tasks, stations=stations, slips=slips, arcs=arcs):
                beat, plan, tree = self.timed(best_beat, line, windows)
                self.assertIs(self.refutes(line, windows, beat - 1, tree), True)
                old = tuple(chosen.randint(-1, stations) for _ in range(tasks))
                self.assert_moves(line, windows, beat, old)
                self.assert_moves(line, windows, beat - 1, old)
                self.assert_moves(line, windows, beat + 500, old)


class Trees(GreatTrees):
    def test_one_thing_is_changed_in_a_greater_tree(self):
        chosen = some(93)
        found = {True: 0, False: 0}
        for slips in (0, 1, None):
            line = free_line([tuple(sorted((chosen.randint(1, 99), chosen.randint(1, 99)))) for _ in range(8)],
                             [(0, 3), (2, 3), (3, 7)], (tuple(range(8)), (0, 2, 4, 6), (1, 3, 5, 7)), slips=slips)
            beat, plan, tree = best_beat(line, (5, 30))
            trees = [(beat - 1, tree, None, None)]
            old = (1, 0, -1, 0, 1, 0, 2, 0)
            many, plan, tree = fewest_moves(line, (5, 30), beat, old)
            trees.append((beat, tree, old, many - 1))
            for beat, tree, old, most in trees:
                self.assertIs(self.refutes(line, (5, 30), beat, tree, old, most), True)
                self.assertIs(self.refutes(line, (5, 30), beat, listed(tree), old, most), True)
                self.assertTrue(does_refute(line, (5, 30), beat, tree, old, most))
                for where, part in ways_down(chosen, tree, 50):
                    other = replaced(tree, where, chosen.choice(changed_parts(chosen, part)))
                    is_held = does_refute(line, (5, 30), beat, other, old, most)
                    found[is_held] += 1
                    self.assertIs(self.refutes(line, (5, 30), beat, other, old, most), is_held)
        self.assertGreater(min(found.values()), 20)

    def test_24_tasks_deep(self):
        line = great_line(some(94), 8)
        for window in (0, 20000, 300000):
            beat, plan, tree = self.timed(best_beat, line, (window,))
            self.assertIs(self.refutes(line, (window,), beat - 1, tree), True)
            self.assertIs(self.refutes(line, (window,), beat, tree), False)
            self.assertIs(self.refutes(line, (window + 1 if window < 300000 else 0,), beat, tree), False)
            self.assertIsNone(self.assert_moves(line, (window,), beat - 1, (0,) * 24))
            self.assertEqual(self.assert_moves(line, (window,), beat, (0,) * 23 + (-1,)), 1)

    def test_all_24_tasks_are_needed(self):
        line = free_line(((1, 2),) * 24, (), (tuple(range(24)),), slips=8)
        tree = self.timed(best_plan, line, (0,), 31)[1]
        self.assertEqual(repr(tree).count("assign"), 24)
        self.assertIs(self.refutes(line, (0,), 31, tree), True)
        self.assertIs(self.refutes(line, (0,), 32, tree), False)

    def rows_tree(self, row, depth, loaded=None):
        """A tree that assigns ten tasks and tells the row at the station that the first one has."""
        if depth == 10:
            return ("row", loaded, row)
        return ("assign", depth, tuple(self.rows_tree(row, depth + 1, at if loaded is None else loaded)
                                       for at in range(2)))

    def test_long_rows_at_many_ends(self):
        line = free_line(((1000, 1001),) + ((0, 0),) * 9, (), (tuple(range(10)),), slips=1)
        # Behind 1,099 pieces the station is 299 late for each 273 of the beat's window; the slip adds the last unit.
        window = 1100 * 272
        row = ((0, ()),) * 1099 + ((0, (0,)),)
        self.assertEqual(len(safe(line, (0,) * 10, 0, window, 728)[1]), 1100)
        self.assertIs(self.refutes(line, (window, window), 728, self.rows_tree(row, 0)), True)
        self.assertIs(self.refutes(line, (window, window), 728, listed(self.rows_tree(row, 0))), True)
        self.assertIs(self.refutes(line, (window, window + 1), 728, self.rows_tree(row, 0)), False)
        self.assertIs(self.refutes(line, (window, window), 728, self.rows_tree(row[1:], 0)), False)
        self.assertIs(self.refutes(line, (window, window), 728, self.rows_tree(row + row[:1], 0)), True)
        self.assertIs(self.refutes(line, (window, window), 728, self.rows_tree(row + row[-1:], 0)), False)

    def test_rows_of_a_great_machine(self):
        line = great_line(some(95), 8)
        beat = least_beat(line, (0,) * 24, (300000,))[0] - 100
        word, row = safe(line, (0,) * 24, 0, 120000, beat)
        self.assertEqual(word, "row")
        self.assertGreater(len(row), 500)
        tree = ("row", 0, row)
        for task in range(24):
            tree = ("assign", task, (tree,))
        self.assertIs(self.refutes(line, (120000,), beat, tree), True)
        self.assertIs(self.refutes(line, (120000,), beat + 1, tree), does_refute(line, (120000,), beat + 1, tree))
        self.assertIs(self.refutes(line, (300000,), beat, tree), False)


if __name__ == "__main__":
    unittest.main()
