"""Rows of pieces, and how late a station is behind each of them."""

from anyrowline.errors import BadValue
from anyrowline.plans import check_plan, check_station, check_time
from anyrowline.values import is_ascending, is_integer, is_sequence


def is_piece(line, state, value):
    """Whether value is a piece that may come in the state."""
    # Rows may be long and many, so this is written to be quick where nothing slips.
    if not isinstance(value, (list, tuple)) or len(value) != 2:
        return False
    arc, slipped = value
    arcs = line.states[state]
    if not is_integer(arc) or not 0 <= arc < len(arcs) or not isinstance(slipped, (list, tuple)):
        return False
    if len(slipped) == 0:
        return True
    model = line.models[arcs[arc][0]]
    return is_ascending(slipped, len(line.tasks)) and all([task in model for task in slipped])


def state_behind(line, pieces):
    """The state behind these pieces, the first of which comes in the line's start; None if one may not come."""
    states = line.states
    state = line.start
    for piece in pieces:
        if not is_piece(line, state, piece):
            return None
        state = states[state][piece[0]][1]
    return state


def is_row(line, value):
    """Whether value is an allowed row."""
    if not is_sequence(value) or len(value) == 0 or state_behind(line, value) is None:
        return False
    return line.slips is None or sum([len(slipped) for _, slipped in value]) <= line.slips


def times_at(line, stations, station, row):
    """What the pieces of an allowed row take at the station; stations has one for each task, or None."""
    there = [where == station for where in stations]
    states = line.states
    usual = {}
    times = []
    state = line.start
    for arc, slipped in row:
        model, state = states[state][arc]
        if model not in usual:
            usual[model] = sum([line.tasks[task][0] for task in line.models[model] if there[task]])
        extra = sum([line.tasks[task][1] - line.tasks[task][0] for task in slipped if there[task]]) if slipped else 0
        times.append(usual[model] + extra)
    return times


def latenesses(times, beat):
    """How late a station is behind each of the pieces that take these times there."""
    late = 0
    found = []
    for time in times:
        late = max(0, late + time - beat)
        found.append(late)
    return found


def lateness(line, plan, station, beat, row):
    """The tuple of the latenesses behind the pieces of an allowed row."""
    check_plan(line, plan)
    check_station(station)
    check_time(beat, 4)
    if not is_row(line, row):
        raise BadValue(5)
    return tuple(latenesses(times_at(line, plan, station, row), beat))
