"""Plans, what their stations do for one piece, and what else is told of stations: windows and beats."""

from anyrowline.errors import BadValue, TooMany
from anyrowline.values import are_within, has_length, is_integer, is_within

MOST_STATIONS = 24
MOST_TIME = 300000
MOST_PLANS = 2 ** 18


def is_plan(line, stations, value):
    """Whether value is a plan for so many stations that fits the order."""
    if not is_within(stations, 1, MOST_STATIONS):
        raise BadValue(2)
    many = len(line.tasks)
    if not has_length(value, many, many) or not are_within(value, 0, stations - 1):
        return False
    return all([value[before] <= value[after] for before, after in line.order])


def check_plan(line, plan):
    """Raise the error of a plan, which is the second argument everywhere, unless it is one that fits."""
    if not is_plan(line, MOST_STATIONS, plan):
        raise BadValue(2)


def check_station(station):
    """Raise the error of a station, which is the third argument everywhere, unless it is one."""
    if not is_within(station, 0, MOST_STATIONS - 1):
        raise BadValue(3)


def check_time(value, at):
    """Raise the error of this place unless value may be a window or a beat."""
    if not is_within(value, 0, MOST_TIME):
        raise BadValue(at)


def check_windows(windows, at):
    """Raise the error of this place unless windows has a window for each of a number of stations."""
    if not has_length(windows, 1, MOST_STATIONS) or not are_within(windows, 0, MOST_TIME):
        raise BadValue(at)


def check_old(line, old, at):
    """Raise the error of this place unless old has a station for each task; -1 stands for none."""
    many = len(line.tasks)
    if not has_length(old, many, many) or not are_within(old, -1, MOST_STATIONS - 1):
        raise BadValue(at)


def check_plans(line, stations):
    """Raise an error if there are too many plans for so many stations to go through them all."""
    many = sum([len(state) for state in line.states]) * (1 if line.slips is None else line.slips + 1)
    for _ in line.tasks:
        many = many * stations
    if many > MOST_PLANS:
        raise TooMany("plans")


def tasks_there(line, plan, station, model):
    """The times of the model's tasks at the station; raises the errors of plan, station and model."""
    check_plan(line, plan)
    check_station(station)
    if not is_within(model, 0, len(line.models) - 1):
        raise BadValue(4)
    return [line.tasks[task] for task in line.models[model] if plan[task] == station]


def usual_load(line, plan, station, model):
    """What a piece of the model takes at the station if nothing slips."""
    return sum([task[0] for task in tasks_there(line, plan, station, model)])


def extras(line, plan, station, model):
    """How much longer each of the model's tasks at the station may take, descending."""
    return tuple(sorted([task[1] - task[0] for task in tasks_there(line, plan, station, model)], reverse=True))


def worst_load(line, plan, station, model, slips):
    """The most that a piece of the model takes at the station with so many slips (None: any number)."""
    usual = usual_load(line, plan, station, model)
    if slips is not None and not (is_integer(slips) and slips >= 0):
        raise BadValue(5)
    more = extras(line, plan, station, model)
    return usual + sum(more if slips is None else more[:slips])
