"""Refutations of all plans, checked without a search."""

from anyrowline.checking import is_gain, is_overflow
from anyrowline.errors import BadValue
from anyrowline.lines import MOST_TASKS
from anyrowline.plans import check_old, check_time, check_windows
from anyrowline.values import has_length, is_ascending, is_within


def refutation_holds(line, windows, beat, tree, *, old=None, most=None):
    """Whether the value tree is a refutation that holds, for old and most if they are given."""
    check_windows(windows, 2)
    check_time(beat, 3)
    if old is not None:
        check_old(line, old, 5)
    if most is not None and not is_within(most, -1, MOST_TASKS):
        raise BadValue(6)
    if (old is None) != (most is None):
        raise BadValue(6)
    return Descent(line, windows, beat, old, most).holds(tree)


class Descent:
    """Goes down each way of a tree, and knows what is assigned on it."""

    def __init__(self, line, windows, beat, old, most):
        self.line = line
        self.windows = windows
        self.beat = beat
        self.old = old
        self.most = most
        self.pairs = {pair: True for pair in line.order}
        # The station of each task, None if it is not assigned.
        self.stations = [None] * len(line.tasks)

    def holds(self, tree):
        """Whether the tree holds behind what is assigned."""
        if has_length(tree, 2, 2):
            word, tasks = tree
            return word == "moved" and self.are_moved(tasks)
        if not has_length(tree, 3, 3):
            return False
        word, first, second = tree
        if word == "assign":
            return self.all_hold(first, second)
        if word == "order":
            return self.is_against_order(first, second)
        # Only a station that has a window may overflow.
        if not is_within(first, 0, len(self.windows) - 1):
            return False
        if word == "row":
            return is_overflow(self.line, self.stations, first, self.windows[first], self.beat, second)
        return word == "loop" and is_gain(self.line, self.stations, first, self.beat, second)

    def all_hold(self, task, branches):
        """Whether the task may be assigned here, and for each station the branch holds behind that."""
        if not self.is_task(task) or self.stations[task] is not None:
            return False
        if not has_length(branches, len(self.windows), len(self.windows)):
            return False
        are_held = True
        for station, branch in enumerate(branches):
            self.stations[task] = station
            if not self.holds(branch):
                are_held = False
                break
        self.stations[task] = None
        return are_held

    def is_task(self, value):
        """Whether value is the number of a task."""
        return is_within(value, 0, len(self.stations) - 1)

    def is_against_order(self, before, after):
        """Whether this is a pair of the order, both are assigned, and before is behind after."""
        if not self.is_task(before) or not self.is_task(after) or (before, after) not in self.pairs:
            return False
        ahead = self.stations[before]
        behind = self.stations[after]
        return ahead is not None and behind is not None and ahead > behind

    def are_moved(self, tasks):
        """Whether these are too many tasks, each assigned to another station than the old plan has for it."""
        if self.most is None or not is_ascending(tasks, len(self.stations)) or len(tasks) <= self.most:
            return False
        for task in tasks:
            if self.stations[task] is None or self.stations[task] == self.old[task]:
                return False
        return True
