"""What was found about a station, told as bounds, rows and loops."""

from anyrowline.circles import FAR
from anyrowline.growth import loop_steps, trail
from anyrowline.machines import in_time


def bounds_of(machine, growth):
    """The bounds of a growth without a loop, for all states of the line."""
    bounds = [(None,) * machine.levels for _ in machine.line.states]
    for number, state in enumerate(machine.originals):
        column = [row[number] for row in growth.table]
        bounds[state] = tuple([in_time(late) if late > FAR else None for late in column])
    return tuple(bounds)


def loop_of(machine, mask, growth):
    """The loop of a growth that has one, for a station with this set of tasks."""
    steps = loop_steps(machine.work(mask), growth.loop)
    return (tuple(machine.head(growth.loop[0])), tuple(machine.pieces(mask, steps)))


def broken_by(machine, mask, growth):
    """A pair ("row", row) or ("loop", loop) against any window that the growth does not keep, soon found."""
    if growth.loop is not None:
        return ("loop", loop_of(machine, mask, growth))
    steps = trail(machine.work(mask), growth)
    return ("row", tuple(machine.head(steps[0][0]) + machine.pieces(mask, steps)))
