"""Plain and slow second versions of what the package works out about lines without a beat."""

import functools
import itertools
from fractions import Fraction

from trials import HUGE, NO_SEQUENCES, ODD_VALUES, is_list, is_number

# In place of a plan for three tasks, of places, and of a run over two models.
WRONG_STATIONS = [(0, 0), (0, 0, 0, 0), (0, 0, 24), (0, -1, 0), (0, None, 0), (True, 0, 0), (0, "0", 0), (0, 0, HUGE),
                  *ODD_VALUES]
WRONG_RUNS = [(), [], (0,) * 13, (0, 2), (0, -1), (None,), (0, True), ("0",), ((0,),), (HUGE,),
              *[value for value in ODD_VALUES if value not in ((0,), [0])]]
WRONG_NUMBERS = [None, True, False, "", "1", (), [], (1,), [1], -1, HUGE, -HUGE, "a" * 20000, *NO_SEQUENCES[6:]]


def take(line, plan, run, station, piece):
    """p(s, i) of point 40."""
    model = line.models[run[piece % len(run)]]
    return sum(line.tasks[task][0] for task in model if plan[task] == station)


def departures_by_rule(line, plan, places, run, pieces):
    """Point 41, word by word."""
    last = max(plan)

    @functools.lru_cache(maxsize=None)
    def departs(station, piece):
        work = take(line, plan, run, station, piece)
        times = [0, work]
        if station > 0:
            times.append(work + departs(station - 1, piece))
        if piece > 0:
            times.append(work + departs(station, piece - 1))
        if station < last and piece - places[station] - 1 >= 0:
            times.append(departs(station + 1, piece - places[station] - 1))
        return max(times)

    return tuple(tuple(departs(station, piece) for station in range(last + 1)) for piece in range(pieces))


def arcs_of(line, plan, places, run):
    """Point 42: the arcs (from, to, weight, turns, kind) between nodes (s, j), told by the nodes to which they lead."""
    n, last = len(run), max(plan)
    arcs = []
    for s, j in itertools.product(range(last + 1), range(n)):
        work = take(line, plan, run, s, j)
        if s > 0:
            arcs.append(((s - 1, j), (s, j), work, 0, "next"))
        arcs.append(((s, j - 1 if j else n - 1), (s, j), work, 0 if j else 1, "same"))
        if s < last:
            i, t = j - places[s] - 1, 0
            while i < 0:
                i, t = i + n, t + 1
            arcs.append(((s + 1, i), (s, j), 0, t, "back"))
    return arcs


def measure(arcs, circuit):
    """Point 43: the weight and the turns of the value circuit; None if it is none."""
    if not is_list(circuit) or len(circuit) == 0:
        return None
    table = {(arc[0], arc[4]): arc for arc in arcs}
    walked = []
    for step in circuit:
        if not is_list(step, 3) or type(step[0]) is not int or type(step[1]) is not int or type(step[2]) is not str:
            return None
        if ((step[0], step[1]), step[2]) not in table:
            return None
        walked.append(table[(step[0], step[1]), step[2]])
    if any(one[1] != other[0] for one, other in zip(walked, walked[1:] + walked[:1])):
        return None
    return sum(arc[2] for arc in walked), sum(arc[3] for arc in walked)


def do_hold(arcs, stations, length, top, bottom, value):
    """Point 45: whether the value potentials hold for the fraction."""
    if not is_list(value, stations) or not all(is_list(column, length) for column in value):
        return False
    if not all(is_number(number, -10 ** 12, 10 ** 12) for column in value for number in column):
        return False
    return all(value[z][i] >= value[s][j] + bottom * weight - top * turns
               for (s, j), (z, i), weight, turns, _ in arcs)


def is_rate(line, plan, places, run, value, circuit, potentials):
    """What rate_holds tells."""
    arcs = arcs_of(line, plan, places, run)
    if not is_list(value, 2) or not all(type(number) is int for number in value) or value[1] <= 0:
        return False
    if Fraction(*value).as_integer_ratio() != tuple(value):
        return False
    measured = measure(arcs, circuit)
    if measured is None or Fraction(*measured) != Fraction(*value):
        return False
    return do_hold(arcs, max(plan) + 1, len(run), value[0], value[1], potentials)


def simple_circuits(arcs):
    """The circuits, each once, that come to no node twice; for small graphs."""
    behind = {}
    for arc in arcs:
        behind.setdefault(arc[0], []).append(arc)

    def ways(begin, walked, seen):
        for arc in behind[walked[-1][1] if walked else begin]:
            if arc[1] == begin:
                yield walked + [arc]
            elif arc[1] > begin and arc[1] not in seen:
                yield from ways(begin, walked + [arc], seen | {arc[1]})

    for node in sorted(behind):
        yield from ways(node, [], {node})


def rate_by_trial(line, plan, places, run):
    """The greatest weight of a circuit by its turns."""
    circuits = simple_circuits(arcs_of(line, plan, places, run))
    return max(Fraction(sum(arc[2] for arc in circuit), sum(arc[3] for arc in circuit)) for circuit in circuits)


def is_slow(line, plan, places, run, value):
    """Whether the rate is above the value: going over all arcs again and again never ends."""
    arcs = arcs_of(line, plan, places, run)
    top, bottom = Fraction(value).as_integer_ratio()
    late = {arc[0]: 0 for arc in arcs}
    # No way that comes to no node twice is longer.
    most = bottom * sum(arc[2] for arc in arcs)
    for _ in range(len(late) + 1):
        old = dict(late)
        for begin, end, weight, turns, _ in arcs:
            late[end] = max(late[end], late[begin] + bottom * weight - top * turns)
        if late == old:
            return False
        if max(late.values()) > most:
            return True
    return True


def all_places(many, pieces):
    """All places for so many stations with so many pieces in all, ascending."""
    if many == 0:
        return [()] if pieces == 0 else []
    return [(first, *rest) for first in range(min(20, pieces) + 1) if pieces - first <= 20 * (many - 1)
            for rest in all_places(many - 1, pieces - first)]


def random_flow(chosen, line, stations=4, length=4):
    """A plan that need not fit the order, places and a run of models for the line."""
    plan = tuple(chosen.randrange(chosen.randint(1, stations)) for _ in line.tasks)
    places = tuple(chosen.choice((0, 0, 0, 1, 1, 2, 5)) for _ in range(max(plan)))
    run = tuple(chosen.randrange(len(line.models)) for _ in range(chosen.randint(1, length)))
    return plan, places, run
