"""The graph of places and a run of models: circuits in it, and potentials of its nodes."""

from anyrowline.circles import settled
from anyrowline.values import are_within, has_length, is_sequence, is_within

MOST_POTENTIAL = 10 ** 12
# The kinds of steps, by how many stations on they lead.
KINDS = ((1, "next"), (0, "same"), (-1, "back"))


class Graph:
    """The graph of a line whose stations take these times for the pieces of one repetition of a run."""

    def __init__(self, takes, places):
        self.takes = takes
        self.places = places
        self.stations = len(takes)
        self.length = len(takes[0])
        # Pairs of the numbers of nodes, with the weight and the turns of the arc from the first one to the other.
        self.arcs = []
        for at in range(self.length):
            for station in range(self.stations):
                for _, kind in KINDS:
                    arc = self.arc(station, at, kind)
                    if arc is not None:
                        to, there, weight, turns = arc
                        self.arcs.append((self.number(station, at), self.number(to, there), weight, turns))

    def number(self, station, at):
        """The number of a node; arcs without turns lead to greater ones, so that few rounds go over all of them."""
        return at * self.stations + station

    def arc(self, station, at, kind):
        """Where an arc of this kind leads from a node, its weight and its turns; None if there is none."""
        if kind == "next" and station + 1 < self.stations:
            return (station + 1, at, self.takes[station + 1][at], 0)
        if kind == "same":
            turns, to = divmod(at + 1, self.length)
            return (station, to, self.takes[station][to], turns)
        if kind == "back" and station > 0:
            turns, to = divmod(at + self.places[station - 1] + 1, self.length)
            return (station - 1, to, 0, turns)
        return None

    def raised(self, top, bottom):
        """The pair of None and potentials that hold for the fraction, the least being 0, or of a circuit above it."""
        into = [[] for _ in range(self.stations * self.length)]
        for source, to, weight, turns in self.arcs:
            into[to].append((source, bottom * weight - top * turns))
        values = [0] * len(into)
        loop = settled(values, into)
        if loop is not None:
            return (self.circuit_of(loop), None)
        # The way to a greatest value begins where nothing is raised, so the least value is still 0.
        columns = [tuple(values[station::self.stations]) for station in range(self.stations)]
        return (None, tuple(columns))

    def circuit_of(self, loop):
        """The circuit through the nodes of these numbers, each ahead of the next one."""
        steps = []
        for place, number in enumerate(loop):
            at, station = divmod(number, self.stations)
            to = loop[place + 1 - len(loop)] % self.stations
            kinds = [kind for more, kind in KINDS if more == to - station]
            steps.append((station, at, kinds[0]))
        return tuple(steps)

    def is_node(self, station, at):
        """Whether these two values are those of a node."""
        return is_within(station, 0, self.stations - 1) and is_within(at, 0, self.length - 1)

    def measured(self, circuit):
        """The pair of the weight and the turns of a circuit; None if the value is none."""
        if not is_sequence(circuit) or len(circuit) == 0:
            return None
        begins = []
        ends = []
        total = 0
        turns = 0
        for step in circuit:
            if not has_length(step, 3, 3) or not self.is_node(step[0], step[1]):
                return None
            arc = self.arc(step[0], step[1], step[2])
            if arc is None:
                return None
            begins.append((step[0], step[1]))
            ends.append((arc[0], arc[1]))
            total += arc[2]
            turns += arc[3]
        return (total, turns) if begins == ends[-1:] + ends[:-1] else None

    def holds(self, top, bottom, potentials):
        """Whether the value potentials are potentials that hold for the fraction."""
        if not has_length(potentials, self.stations, self.stations):
            return False
        for column in potentials:
            if not has_length(column, self.length, self.length):
                return False
            if not are_within(column, -MOST_POTENTIAL, MOST_POTENTIAL):
                return False
        for source, to, weight, turns in self.arcs:
            at, station = divmod(source, self.stations)
            there, behind = divmod(to, self.stations)
            if potentials[behind][there] < potentials[station][at] + bottom * weight - top * turns:
                return False
        return True
