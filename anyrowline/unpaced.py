"""Lines without a beat: what plans, places and runs of models must be, and what the stations take."""

from anyrowline.errors import BadValue
from anyrowline.plans import MOST_STATIONS
from anyrowline.values import are_within, has_length

MOST_PLACES = 20
MOST_RUN = 12


def check_stations(line, plan):
    """Raise the error of a plan, which is the second argument everywhere, unless it is one; it need not fit."""
    many = len(line.tasks)
    if not has_length(plan, many, many) or not are_within(plan, 0, MOST_STATIONS - 1):
        raise BadValue(2)


def check_places(plan, places, at):
    """Raise the error of this place unless places has a number for each station of the plan but the last one."""
    many = max(plan)
    if not has_length(places, many, many) or not are_within(places, 0, MOST_PLACES):
        raise BadValue(at)


def check_run(line, run, at):
    """Raise the error of this place unless run is a run of models."""
    if not has_length(run, 1, MOST_RUN) or not are_within(run, 0, len(line.models) - 1):
        raise BadValue(at)


def takes_of(line, plan, run):
    """For each station of the plan the tuple of what it takes for each piece of one repetition of the run."""
    takes = []
    for station in range(max(plan) + 1):
        there = [sum([line.tasks[task][0] for task in model if plan[task] == station]) for model in line.models]
        takes.append(tuple([there[model] for model in run]))
    return tuple(takes)
