"""Evidence about one station, checked without a search: rows that overflow, loops that gain, bounds that hold."""

from anyrowline.loads import loads_of, tasks_at
from anyrowline.plans import MOST_TIME, check_plan, check_station, check_time
from anyrowline.rows import is_row, latenesses, state_behind, times_at
from anyrowline.values import has_length, is_sequence, is_within


def row_overflows(line, plan, station, window, beat, row):
    """Whether the value row is an allowed row that overflows at the station."""
    check_plan(line, plan)
    check_station(station)
    check_time(window, 4)
    check_time(beat, 5)
    return is_overflow(line, plan, station, window, beat, row)


def is_overflow(line, stations, station, window, beat, row):
    """Whether row is an allowed row that overflows at the station; stations has one for each task, or None."""
    if not is_row(line, row):
        return False
    times = times_at(line, stations, station, row)
    ahead = [0] + latenesses(times, beat)
    return ahead[-2] + times[-1] > beat + window


def loop_gains(line, plan, station, beat, value):
    """Whether value is a loop that gains at the station."""
    check_plan(line, plan)
    check_station(station)
    check_time(beat, 4)
    return is_gain(line, plan, station, beat, value)


def is_gain(line, stations, station, beat, value):
    """Whether value is a loop that gains at the station; stations has one for each task, or None."""
    if not is_loop(line, value):
        return False
    head, body = value
    times = times_at(line, stations, station, list(head) + list(body))
    return sum(times[len(head):]) > beat * len(body)


def is_loop(line, value):
    """Whether value is a loop of the line: a head, and a body that may come behind it for ever."""
    if not has_length(value, 2, 2):
        return False
    head, body = value
    if not is_sequence(head) or not is_sequence(body) or len(body) == 0:
        return False
    whole = list(head) + list(body)
    if not is_row(line, whole) or state_behind(line, whole) != state_behind(line, head):
        return False
    return line.slips is None or all([len(slipped) == 0 for _, slipped in body])


def bounds_hold(line, plan, station, window, beat, bounds):
    """Whether the value bounds are bounds that hold at the station."""
    check_plan(line, plan)
    check_station(station)
    check_time(window, 4)
    check_time(beat, 5)
    if not are_bounds(line, bounds) or bounds[line.start][-1] is None:
        return False
    loads = loads_of(line, tasks_at(plan, station))
    for state, row in enumerate(bounds):
        for left, bound in enumerate(row):
            if bound is not None and not is_kept(line, loads, bounds, (state, left), beat, window):
                return False
    return True


def are_bounds(line, value):
    """Whether value has a bound or None for each state and each number of slips that may be left."""
    states = len(line.states)
    lefts = 1 if line.slips is None else line.slips + 1
    if not has_length(value, states, states) or not all([has_length(row, lefts, lefts) for row in value]):
        return False
    return all([bound is None or is_within(bound, 0, MOST_TIME) for row in value for bound in row])


def is_kept(line, loads, bounds, place, beat, window):
    """Whether no piece overflows behind the bound at this place, a state and left, and other bounds go on from it."""
    state, left = place
    bound = bounds[state][left]
    for model, to in line.states[state]:
        for many, load in enumerate(loads[model][:left + 1]):
            beyond = bounds[to][left - many]
            late = bound + load - beat
            if late > window or beyond is None or beyond < late:
                return False
    return True
