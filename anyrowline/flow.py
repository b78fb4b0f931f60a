"""When pieces depart from the stations of a line without a beat."""

from anyrowline.errors import BadValue
from anyrowline.unpaced import check_places, check_run, check_stations, takes_of
from anyrowline.values import is_within

MOST_PIECES = 200


def departures(line, plan, places, run, pieces):
    """For each of so many pieces the tuple of its departures from the stations."""
    check_stations(line, plan)
    check_places(plan, places, 3)
    check_run(line, run, 4)
    if not is_within(pieces, 1, MOST_PIECES):
        raise BadValue(5)
    takes = takes_of(line, plan, run)
    found = []
    for _ in range(pieces):
        found.append(tuple(next_departures(takes, places, found)))
    return tuple(found)


def next_departures(takes, places, ahead):
    """The departures of the piece behind these ones, of which the departures are told."""
    piece = len(ahead)
    times = []
    for station, work in enumerate(takes):
        time = 0
        if station > 0:
            time = times[station - 1]
        if piece > 0:
            time = max(time, ahead[piece - 1][station])
        time += work[piece % len(work)]
        # A piece stays until there is a place for it.
        if station < len(places) and piece > places[station]:
            time = max(time, ahead[piece - places[station] - 1][station + 1])
        times.append(time)
    return times
