"""Plain and slow second versions of what the package works out, for small lines, and values for the tests.

Nothing here calls the package but for `Line`, so that an error of the package is no error here.
"""

import copy
import itertools
import random
import unittest

from anyrowline.errors import BadValue, RowError, TooMany
from anyrowline.lines import Line

HUGE = 10 ** 30
NO_SEQUENCES = (None, True, False, 0, 1, 4, -1, HUGE, -HUGE, "", "a", "01", "0123", "\n", "a" * 20000)
NO_INTEGERS = (None, True, False, "", "0", "1", "a", (), [], (0,), [1], (0, 1), ((),))
# The line of the overview.
SMALL = Line(((4, 4), (2, 5), (3, 3)), ((0, 1),), ((0, 1, 2), (0, 2)), (((0, 1),), ((1, 0),)), 0, slips=1)


def deep(levels):
    """Lists in lists."""
    value = []
    for _ in range(levels - 1):
        value = [value]
    return value


ODD_VALUES = NO_SEQUENCES + (
    (), [], (0,), [0], (None,), ((),), ([],), ((), ()), [[], []], ("00",), (("0", ()),), deep(40), (0,) * 20000,
    ((0, ()), None), ((0,),), ((0, (), ()),), ((None, ()),), ((True, ()),), ((False, ()),), (("", ()),), (((), 0),),
    ((0, 0),), ((0, None),), ((0, ""),), ((0, ("0",)),), ((0, (None,)),), ((0, (False,)),), ((0, (HUGE,)),),
    ((-1, ()),), ((HUGE, ()),), ((-HUGE, ()),), ((0, ((),)),), ("row", ((0, ()),)), ("bounds", ((0,),)), SMALL,
)


def listed(value):
    """The value with lists in place of tuples, at every level."""
    return [listed(part) for part in value] if isinstance(value, tuple) else value


def random_line(chosen, tasks=4, states=4, high=8, slips=(None, 0, 0, 1, 2, 3, 8)):
    """Some line of at most so many tasks and states."""
    many = chosen.randint(1, tasks)
    times = []
    for _ in range(many):
        usual = chosen.randint(0, high)
        times.append((usual, chosen.choice((usual, chosen.randint(usual, high + 4)))))
    names = list(range(many))
    chosen.shuffle(names)
    order = [(names[a], names[b]) for a, b in itertools.combinations(range(many), 2) if chosen.random() < 0.25]
    models = [tuple(task for task in range(many) if chosen.random() < 0.7) for _ in range(chosen.randint(1, 3))]
    size = chosen.randint(1, states)
    arcs = [(model, to) for model in range(len(models)) for to in range(size)]
    machine = [chosen.sample(arcs, chosen.randint(1, min(len(arcs), 4))) for _ in range(size)]
    return Line(times, order, models, machine, chosen.randrange(size), slips=chosen.choice(slips))


def random_row(chosen, line, pieces):
    """Some row of so many pieces, allowed or with a few slips too many."""
    row, state = [], line.start
    for _ in range(pieces):
        arc = chosen.randrange(len(line.states[state]))
        model, to = line.states[state][arc]
        slipped = tuple(task for task in line.models[model] if chosen.random() < 0.15)
        row.append((arc, slipped))
        state = to
    return tuple(row)


def all_plans(line, stations):
    """All plans for so many stations that fit the order."""
    plans = itertools.product(range(stations), repeat=len(line.tasks))
    return [plan for plan in plans if all(plan[before] <= plan[after] for before, after in line.order)]


def is_number(value, low, high):
    return type(value) is int and low <= value <= high


def is_list(value, *lengths):
    return type(value) in (list, tuple) and (not lengths or len(value) in lengths)


def is_allowed(line, value):
    """Point 24, word by word."""
    if not is_list(value) or len(value) == 0:
        return False
    state, many = line.start, 0
    for piece in value:
        if not is_list(piece, 2) or not is_number(piece[0], 0, len(line.states[state]) - 1) or not is_list(piece[1]):
            return False
        model, state = line.states[state][piece[0]]
        slipped = list(piece[1])
        if not all(type(task) is int and task in line.models[model] for task in slipped):
            return False
        if any(first >= second for first, second in zip(slipped, slipped[1:])):
            return False
        many += len(slipped)
    return line.slips is None or many <= line.slips


def times_of(line, plan, station, row):
    """What the pieces of an allowed row take at the station."""
    state, times = line.start, []
    for arc, slipped in row:
        model, state = line.states[state][arc]
        here = [task for task in line.models[model] if plan[task] == station]
        times.append(sum(line.tasks[task][1 if task in slipped else 0] for task in here))
    return times


def does_overflow(line, plan, station, window, beat, row):
    """Points 25 and 26 for an allowed row."""
    late = 0
    for time in times_of(line, plan, station, row):
        over = late + time > beat + window
        late = max(0, late + time - beat)
    return over


def is_gaining(line, plan, station, beat, value):
    """The second part of point 27."""
    if not is_list(value, 2) or not is_list(value[0]) or not is_list(value[1]) or len(value[1]) == 0:
        return False
    whole = list(value[0]) + list(value[1])
    if not is_allowed(line, whole):
        return False
    states = [line.start]
    for arc, _ in whole:
        states.append(line.states[states[-1]][arc][1])
    if states[-1] != states[len(value[0])] or (line.slips is not None and any(slipped for _, slipped in value[1])):
        return False
    return sum(times_of(line, plan, station, whole)[len(value[0]):]) > beat * len(value[1])


def worst_loads(line, plan, station, model):
    """What a piece takes at most with 0, 1, ... slips there; with all of them, if the line's slips are None."""
    here = [line.tasks[task] for task in line.models[model] if plan[task] == station]
    loads = []
    for many in range(len(here) + 1):
        slipped = itertools.combinations(range(len(here)), many)
        loads.append(max(sum(task[1 if at in some else 0] for at, task in enumerate(here)) for some in slipped))
    return loads[-1:] if line.slips is None else loads


def are_held(line, plan, station, window, beat, value):
    """Point 29, word by word."""
    lefts = 1 if line.slips is None else line.slips + 1
    if not is_list(value, len(line.states)) or not all(is_list(row, lefts) for row in value):
        return False
    if not all(bound is None or is_number(bound, 0, 300000) for row in value for bound in row):
        return False
    if value[line.start][lefts - 1] is None:
        return False
    for state, left in itertools.product(range(len(line.states)), range(lefts)):
        bound = value[state][left]
        for model, to in line.states[state] if bound is not None else ():
            for many, load in enumerate(worst_loads(line, plan, station, model)):
                if many <= left:
                    beyond = value[to][left - many]
                    if bound + load > beat + window or beyond is None or beyond < bound + load - beat:
                        return False
    return True


def told(line, plan, station, window, beat, most=1100):
    """What `safe` has to tell: ("bounds", bounds), ("row", how many pieces) or ("loop", None).

    Piece by piece, by all that may come behind so many pieces.
    """
    top = line.slips or 0
    loads = [worst_loads(line, plan, station, model) for model in range(len(line.models))]
    behind = {(line.start, top): 0}
    greatest = dict(behind)
    for pieces in range(1, most + 1):
        ahead, behind = behind, {}
        for (state, left), late in ahead.items():
            for model, to in line.states[state]:
                for many in range(min(left + 1, len(loads[model]))):
                    excess = late + loads[model][many] - beat
                    if excess > window:
                        return ("row", pieces)
                    behind[to, left - many] = max(behind.get((to, left - many), 0), excess)
        if all(greatest.get(place, -1) >= late for place, late in behind.items()):
            states = range(len(line.states))
            return ("bounds", tuple(tuple(greatest.get((state, left)) for left in range(top + 1)) for state in states))
        for place, late in behind.items():
            greatest[place] = max(greatest.get(place, 0), late)
    return ("loop", None)


def is_kept(line, plan, windows, beat):
    """Whether a plan for as many stations keeps the windows with the beat."""
    return all(told(line, plan, at, window, beat)[0] == "bounds" for at, window in enumerate(windows))


def least_by_trial(line, plan, windows):
    """The least beat with which a plan for as many stations keeps the windows."""
    return next(beat for beat in itertools.count() if is_kept(line, plan, windows, beat))


def does_refute(line, windows, beat, tree, old=None, most=None, way=()):
    """Point 36, word by word, for any value; way has the pairs of a task and its station on the way down."""
    stations, tasks, many = dict(way), range(len(line.tasks)), len(windows)
    if not is_list(tree) or len(tree) == 0 or type(tree[0]) is not str:
        return False
    word, told_by = tree[0], list(tree[1:])
    if word == "moved":
        if len(told_by) != 1 or old is None or most is None or not is_list(told_by[0]):
            return False
        moved = list(told_by[0])
        if not all(type(task) is int and task in tasks for task in moved) or moved != sorted(set(moved)):
            return False
        return len(moved) > most and all(task in stations and stations[task] != old[task] for task in moved)
    if len(told_by) != 2:
        return False
    first, second = told_by
    if word == "assign":
        if not is_number(first, 0, len(tasks) - 1) or first in stations or not is_list(second, many):
            return False
        return all([does_refute(line, windows, beat, branch, old, most, (*way, (first, station)))
                    for station, branch in enumerate(second)])
    if word == "order":
        if type(first) is not int or type(second) is not int or (first, second) not in line.order:
            return False
        return first in stations and second in stations and stations[first] > stations[second]
    if word not in ("row", "loop") or not is_number(first, 0, many - 1):
        return False
    plan = [stations.get(task) for task in tasks]
    if word == "loop":
        return is_gaining(line, plan, first, beat, second)
    return is_allowed(line, second) and does_overflow(line, plan, first, windows[first], beat, second)


def moves_by_trial(line, windows, beat, old):
    """The least number of tasks that have another station than in old; None if no plan keeps the windows."""
    plans = [plan for plan in all_plans(line, len(windows)) if is_kept(line, plan, windows, beat)]
    return min((sum(now != then for now, then in zip(plan, old)) for plan in plans), default=None)


def parts_in(value, where=()):
    """All parts of nested tuples, each with the way to it; the whole one comes first."""
    found = [(where, value)]
    if type(value) is tuple:
        for at, part in enumerate(value):
            found.extend(parts_in(part, (*where, at)))
    return found


def replaced(value, where, part):
    """The nested tuples with this part at the end of this way."""
    if len(where) == 0:
        return part
    at = where[0]
    return (*value[:at], replaced(value[at], where[1:], part), *value[at + 1:])


def changed_parts(chosen, part):
    """What may stand in place of a part of a value, for the value to be a wrong one or just another one."""
    if type(part) is tuple:
        found = [list(part), (), part + part, part + part[-1:], part[:-1], part[1:], part[::-1], (part,), "", None, 0]
        if len(part) > 1:
            at = chosen.randrange(len(part))
            found += [part[:at] + part[at + 1:], part[:at] + part[at:at + 1] + part[at:], part[1:] + part[:1]]
        return found
    if type(part) is str:
        return ["", part + "s", part.upper(), (part,), None, 0, "assign", "order", "row", "loop", "moved"]
    if type(part) is int:
        return [part + 1, part - 1, -part, 0, 1, 2, -1, str(part), (part,), None, bool(part), part + HUGE, HUGE]
    return [0, (), "", True]


class Trial(unittest.TestCase):
    """What the tests of several files assert."""

    def assert_bad(self, at, function, *arguments, **named):
        """The function raises BadValue with this place, and changes nothing that it is passed."""
        before = copy.deepcopy((arguments[1:], named))
        with self.assertRaises(RowError) as caught:
            function(*arguments, **named)
        self.assertIs(type(caught.exception), BadValue)
        self.assertEqual(caught.exception.at, at)
        self.assertIs(type(caught.exception.at), int)
        self.assertEqual((arguments[1:], named), before)

    def assert_too_many(self, function, *arguments):
        with self.assertRaises(RowError) as caught:
            function(*arguments)
        self.assertIs(type(caught.exception), TooMany)
        self.assertEqual(caught.exception.word, "plans")

    def assert_errors(self, function, fine, wrong):
        """Each argument of the wrong ones raises BadValue with its place, ahead of those behind it.

        Both are dicts from the places of the arguments; each wrong one is a list of values.
        """
        places = sorted(fine)
        for place in places:
            for value in wrong.get(place, ()):
                with self.subTest(function=function.__name__, place=place, value=value):
                    self.assert_bad(place, function, *[value if at == place else fine[at] for at in places])
        several = [place for place in places if place in wrong]
        for some in itertools.product((False, True), repeat=len(several)):
            if any(some):
                bad = [place for place, is_bad in zip(several, some) if is_bad]
                arguments = [wrong[at][0] if at in bad else fine[at] for at in places]
                self.assert_bad(bad[0], function, *arguments)

    def assert_plain(self, value):
        """Plain tuples, integers, words and None alone, at every level."""
        if type(value) is tuple:
            for part in value:
                self.assert_plain(part)
        else:
            self.assertIn(type(value), (int, str, type(None)))

    def assert_refutes(self, line, windows, beat, tree, assigned=()):
        """The tree holds, without an old plan, as point 36 says; assigned are pairs of a task and its station."""
        self.assertIs(type(tree), tuple)
        stations = dict(assigned)
        if tree[0] == "assign":
            word, task, branches = tree
            self.assertIs(type(task), int)
            self.assertTrue(0 <= task < len(line.tasks) and task not in stations)
            self.assertIs(type(branches), tuple)
            self.assertEqual(len(branches), len(windows))
            for station, branch in enumerate(branches):
                self.assert_refutes(line, windows, beat, branch, (*assigned, (task, station)))
        elif tree[0] == "order":
            word, before, after = tree
            self.assertIn((before, after), line.order)
            self.assertGreater(stations[before], stations[after])
        else:
            word, station, what = tree
            self.assertIn(word, ("row", "loop"))
            self.assertTrue(is_number(station, 0, len(windows) - 1))
            self.assert_plain(what)
            plan = [stations.get(task) for task in range(len(line.tasks))]
            if word == "row":
                self.assertTrue(is_allowed(line, what))
                self.assertTrue(does_overflow(line, plan, station, windows[station], beat, what))
            else:
                self.assertTrue(is_gaining(line, plan, station, beat, what))


def some(seed):
    """Numbers that look random and are the same in every run."""
    return random.Random(seed)
