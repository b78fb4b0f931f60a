"""How late a station comes to be in the rows of a machine, however long they are."""

from anyrowline.circles import FAR, NONE, settled
from anyrowline.machines import SCALE, cost_of, in_time

# With this beat no piece makes a station later.
MOST_LOAD = 240000


class Growth:
    """What `grown` finds for a beat: a loop that gains, or the table of the greatest latenesses."""

    def __init__(self, beat):
        self.beat = beat
        # The states of the loop, each ahead of the next one.
        self.loop = None
        self.table = []
        # The greatest excess over the beat behind a piece, and where: the slips left then and the state.
        self.top = NONE
        self.place = None

    def note(self, left, excesses):
        """Keep the greatest of these excesses, if it is greater than what is kept."""
        high = max(excesses)
        if high > self.top:
            self.top = high
            self.place = (left, excesses.index(high))

    def keeps(self, window):
        """Whether no row overflows with this window."""
        return self.loop is None and in_time(self.top) <= window


def grown(work, beat, parts=1):
    """The Growth of a station with this beat, which is told, as the latenesses are, in so many parts of a unit."""
    growth = Growth(beat)
    steady = [[(source, cost_of(load, beat, parts)) for source, load in pairs] for pairs in work.steady]
    costs = work.costs(beat, parts)
    last = work.levels - 1
    growth.table = [None] * work.levels
    spreads = [None] * work.levels
    for left in range(last, -1, -1):
        # Rows without slips come to every state, and the station may be on time in each.
        values = [0 if left == last else NONE] * len(steady)
        excesses = work.excesses(costs, spreads, left)
        if excesses is not None:
            growth.note(left, excesses)
            values = [max(excess, 0) if excess > FAR else NONE for excess in excesses]
        growth.loop = settled(values, steady)
        if growth.loop is not None:
            return growth
        growth.table[left] = values
        spreads[left] = work.spread(values)
        growth.note(left, [max([values[ahead] + more for ahead, more in pairs], default=NONE) for pairs in steady])
    return growth


def loop_steps(work, loop):
    """The steps (ahead, behind, slips, load) of a loop of these states."""
    steps = []
    for at, ahead in enumerate(loop):
        behind = loop[at + 1 - len(loop)]
        loads = [load for source, load in work.steady[behind] if source == ahead]
        steps.append((ahead, behind, 0, loads[0]))
    return steps


def mean(work, loop):
    """What the pieces of a loop of these states take together, and how many they are."""
    return (sum([step[3] for step in loop_steps(work, loop)]), len(loop))


def trail(work, growth):
    """The steps, of a growth without a loop, from where the station was last on time to the greatest excess."""
    costs = work.costs(growth.beat, 1)
    place = growth.place
    late = growth.top
    steps = []
    while late > 0:
        step = work.step(costs, growth.table, place, late)
        steps.append(step)
        place = (place[0] + step[2], step[0])
        late = growth.table[place[0]][place[1]]
    steps.reverse()
    return steps


def enough_for(work, growth, window):
    """The least beat with which what was found doesn't overflow; the growth's own beat if that keeps the window."""
    if growth.loop is not None:
        total, pieces = mean(work, growth.loop)
        return -(-total // pieces)
    late = in_time(growth.top)
    if late <= window:
        return growth.beat
    pieces = SCALE * late - growth.top
    return growth.beat - (window - late) // pieces


def least_enough(work, window, beat, limit):
    """The least beat from this one on with which the station keeps the window; any from limit on, if it is no less.

    What is found out is kept for later calls.
    """
    low, high = work.spans.get(window, (0, MOST_LOAD))
    at = max(low, beat)
    while at < high and at < limit:
        more = enough_for(work, grown(work, at), window)
        if more == at:
            high = at
        else:
            low = more
            at = more
    work.spans[window] = (low, high)
    return at
