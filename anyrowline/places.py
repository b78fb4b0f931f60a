"""The fewest places between stations with which the rate of a run is at most a given one."""

from anyrowline.errors import BadValue, TooMany
from anyrowline.graphs import Graph
from anyrowline.rates import lowest
from anyrowline.unpaced import MOST_PLACES, check_places, check_run, check_stations, takes_of
from anyrowline.values import has_length, is_within

MOST_TOP = 10 ** 6
MOST_BOTTOM = 1000
MOST_DIVISIONS = 300


def check_value(value):
    """Raise the error of a greatest rate, which is the fourth argument, unless it is one."""
    if not has_length(value, 2, 2) or not is_within(value[0], 0, MOST_TOP) or not is_within(value[1], 1, MOST_BOTTOM):
        raise BadValue(4)


def fewest_places(line, plan, run, value):
    """The fewest places with potentials and a proof, or the pair of "never" and a station that takes too long."""
    check_stations(line, plan)
    check_run(line, run, 3)
    check_value(value)
    takes = takes_of(line, plan, run)
    for station, times in enumerate(takes):
        if sum(times) * value[1] > value[0]:
            return ("never", station)
    search = PlaceSearch(takes, value)
    pieces = 0
    found = search.fitting(pieces)
    while found is None:
        if many_divisions(search.many, pieces) > MOST_DIVISIONS:
            raise TooMany("divisions")
        pieces += 1
        found = search.fitting(pieces)
    proof = [(places, search.circuit(places)) for places in divisions(search.many, pieces - 1)]
    return ("places", found[0], found[1], tuple(proof))


def divisions(many, pieces):
    """All places for so many stations that hold so many pieces in all, ascending; there are none for pieces below 0."""
    if many == 0:
        return [()] if pieces == 0 else []
    found = []
    for first in range(max(0, pieces - MOST_PLACES * (many - 1)), min(MOST_PLACES, pieces) + 1):
        found.extend([(first,) + rest for rest in divisions(many - 1, pieces - first)])
    return found


def many_divisions(many, pieces):
    """How many divisions there are, told without going through them."""
    if pieces < 0:
        return 0
    ways = [1] + [0] * pieces
    for _ in range(many):
        ways = [sum(ways[max(0, whole - MOST_PLACES):whole + 1]) for whole in range(pieces + 1)]
    return ways[pieces]


class PlaceSearch:
    """Looks for places with which the rate is at most a given one, no station alone taking more."""

    def __init__(self, takes, value):
        self.takes = takes
        # How many stations have places behind them.
        self.many = len(takes) - 1
        self.top, self.bottom = lowest(value)
        # Pairs of a circuit above the fraction, and a dict from where it steps back to the places there.
        self.known = []

    def fitting(self, pieces):
        """The pair of places with so many pieces and potentials that hold for them; None if there are none."""
        for places in divisions(self.many, pieces):
            if not self.is_known(places):
                potentials = self.tried(places)
                if potentials is not None:
                    return (places, potentials)
        return None

    def is_known(self, places):
        """Whether a known circuit is against these places: fewer places where it steps back don't make it better."""
        for _, limits in self.known:
            if all([places[at] <= most for at, most in limits.items()]):
                return True
        return False

    def tried(self, places):
        """Potentials that hold for these places; None if there is a circuit above the fraction, which is kept."""
        circuit, potentials = Graph(self.takes, places).raised(self.top, self.bottom)
        if circuit is not None:
            limits = {station - 1: places[station - 1] for station, _, kind in circuit if kind == "back"}
            self.known.append((circuit, limits))
        return potentials

    def circuit(self, places):
        """A circuit above the fraction for these places, which has one."""
        for circuit, limits in self.known:
            if all([places[at] == most for at, most in limits.items()]):
                return circuit
        self.tried(places)
        return self.known[-1][0]


def places_hold(line, plan, run, value, places, potentials, proof):
    """Whether the potentials hold with these places, and the proof is one for one piece fewer."""
    check_stations(line, plan)
    check_run(line, run, 3)
    check_value(value)
    check_places(plan, places, 5)
    takes = takes_of(line, plan, run)
    top, bottom = lowest(value)
    if not Graph(takes, places).holds(top, bottom, potentials):
        return False
    return is_proof(takes, value, sum(places) - 1, proof)


def is_proof(takes, value, pieces, proof):
    """Whether the value proof has, for all divisions of so many pieces, a pair of it and a circuit above the value."""
    many = len(takes) - 1
    if many_divisions(many, pieces) > MOST_DIVISIONS:
        return False
    told = divisions(many, pieces)
    if not has_length(proof, len(told), len(told)):
        return False
    return all([is_against(takes, value, places, pair) for places, pair in zip(told, proof)])


def is_against(takes, value, places, pair):
    """Whether the pair is that of these places and a circuit of their graph above the value."""
    if not has_length(pair, 2, 2) or not is_same(places, pair[0]):
        return False
    measured = Graph(takes, places).measured(pair[1])
    return measured is not None and measured[0] * value[1] > value[0] * measured[1]


def is_same(places, value):
    """Whether value is a sequence of these integers."""
    if not has_length(value, len(places), len(places)):
        return False
    return all([is_within(number, most, most) for most, number in zip(places, value)])
