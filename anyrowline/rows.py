"""Rows of pieces, and how late a station is behind each of them."""

from anyrowline.errors import BadValue
from anyrowline.plans import check_plan, check_station, check_time
from anyrowline.values import has_length, is_ascending, is_sequence, is_within


def is_piece(line, state, value):
    """Whether value is a piece that may come in the state."""
    arcs = line.states[state]
    if not has_length(value, 2, 2) or not is_within(value[0], 0, len(arcs) - 1):
        return False
    arc, slipped = value
    model = line.models[arcs[arc][0]]
    return is_ascending(slipped, len(line.tasks)) and all([task in model for task in slipped])


def state_behind(line, pieces):
    """The state behind these pieces, the first of which comes in the line's start; None if one may not come."""
    state = line.start
    for piece in pieces:
        if not is_piece(line, state, piece):
            return None
        state = line.states[state][piece[0]][1]
    return state


def is_row(line, value):
    """Whether value is an allowed row."""
    if not is_sequence(value) or len(value) == 0 or state_behind(line, value) is None:
        return False
    return line.slips is None or sum([len(slipped) for _, slipped in value]) <= line.slips


def times_at(line, plan, station, row):
    """What the pieces of an allowed row take at the station."""
    there = [where == station for where in plan]
    usual = [sum([line.tasks[task][0] for task in model if there[task]]) for model in line.models]
    extras = [task[1] - task[0] if is_there else 0 for task, is_there in zip(line.tasks, there)]
    times = []
    state = line.start
    for arc, slipped in row:
        model, behind = line.states[state][arc]
        times.append(usual[model] + sum([extras[task] for task in slipped]))
        state = behind
    return times


def latenesses(times, beat):
    """How late a station is behind each of the pieces that take these times there."""
    late = 0
    found = []
    for time in times:
        late = max(0, late + time - beat)
        found.append(late)
    return found


def lateness(line, plan, station, beat, row):
    """The tuple of the latenesses behind the pieces of an allowed row."""
    check_plan(line, plan)
    check_station(station)
    check_time(beat, 4)
    if not is_row(line, row):
        raise BadValue(5)
    return tuple(latenesses(times_at(line, plan, station, row), beat))
