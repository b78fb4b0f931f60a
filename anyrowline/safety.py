"""Whether stations are safe in every row, with bounds for it, or rows and loops against it."""

from anyrowline.errors import BadValue
from anyrowline.evidence import bounds_of, loop_of
from anyrowline.growth import MOST_LOAD, grown, least_enough, mean
from anyrowline.loads import tasks_at
from anyrowline.machines import Machine, in_time
from anyrowline.plans import check_plan, check_station, check_time, check_windows
from anyrowline.shortest import fewest_steps

# Where only longer rows overflow, a loop is told.
MOST_PIECES = 1100


def safe(line, plan, station, window, beat):
    """The pair of "bounds" and the least bounds that hold, of "row" and a shortest row that overflows, or of "loop"."""
    check_plan(line, plan)
    check_station(station)
    check_time(window, 4)
    check_time(beat, 5)
    machine = Machine(line)
    mask = tasks_at(plan, station)
    growth = grown(machine.work(mask), beat)
    if growth.keeps(window):
        return ("bounds", bounds_of(machine, growth))
    row = shortest_row(machine, mask, growth, window, MOST_PIECES)
    if row is not None:
        return ("row", row)
    return ("loop", loop_of(machine, mask, growth))


def shortest_row(machine, mask, growth, window, most):
    """A shortest row that overflows where the growth does not keep the window; None if it has more than most pieces."""
    work = machine.work(mask)
    if fewest_possible(work, growth, window) > most:
        return None
    steps = fewest_steps(work, growth.beat, window, most)
    return None if steps is None else tuple(machine.pieces(mask, steps))


def fewest_possible(work, growth, window):
    """A number of pieces, found at once, of which or more each row is that overflows; 1 if no loop gains."""
    if growth.loop is None:
        return 1
    even = growth
    while even.loop is not None:
        total, pieces = mean(work, even.loop)
        even = grown(work, total, pieces)
    # With a beat of total / pieces no loop gains; with this beat a piece makes the station later than so by the
    # difference at most.
    return max(1, (window * pieces - in_time(even.top)) // (total - growth.beat * pieces) + 1)


def keeps(line, plan, windows, beat):
    """Whether the plan is one for as many stations as there are windows, and keeps them with the beat."""
    check_plan(line, plan)
    check_windows(windows, 3)
    check_time(beat, 4)
    if max(plan) >= len(windows):
        return False
    machine = Machine(line)
    for station, window in enumerate(windows):
        if not grown(machine.work(tasks_at(plan, station)), beat).keeps(window):
            return False
    return True


def least_beat(line, plan, windows):
    """The least beat with which the plan keeps the windows, its bounds, and what overflows with a beat of one less."""
    check_plan(line, plan)
    check_windows(windows, 3)
    if max(plan) >= len(windows):
        raise BadValue(2)
    machine = Machine(line)
    stations = [(tasks_at(plan, station), window) for station, window in enumerate(windows)]
    beat = 0
    for mask, window in stations:
        beat = least_enough(machine.work(mask), window, beat, MOST_LOAD)
    bounds = tuple([bounds_of(machine, grown(machine.work(mask), beat)) for mask, _ in stations])
    return (beat, bounds, None if beat == 0 else overflow_of(machine, stations, beat - 1))


def broken_of(machine, stations, beat):
    """A dict from the stations that don't keep their windows with the beat to their growths."""
    growths = {}
    for station, (mask, window) in enumerate(stations):
        growth = grown(machine.work(mask), beat)
        if not growth.keeps(window):
            growths[station] = growth
    return growths


def overflow_of(machine, stations, beat):
    """The station with the shortest row that overflows, and what `safe` returns there; if there's no row, a loop."""
    growths = broken_of(machine, stations, beat)
    ranked = []
    for station, growth in growths.items():
        mask, window = stations[station]
        ranked.append((fewest_possible(machine.work(mask), growth, window), station))
    best = None
    row = None
    tried = {}
    # Where a short row is likely comes first, so that elsewhere only shorter ones are looked for.
    for _, station in sorted(ranked):
        mask, window = stations[station]
        if (machine.work(mask), window) in tried:
            continue
        tried[(machine.work(mask), window)] = True
        most = MOST_PIECES
        if row is not None:
            most = len(row) if station < best else len(row) - 1
        found = shortest_row(machine, mask, growths[station], window, most)
        if found is not None:
            best = station
            row = found
    if row is not None:
        return (best, ("row", row))
    station = min(list(growths))
    return (station, ("loop", loop_of(machine, stations[station][0], growths[station])))
