"""The rate of a repeated run of models, with a circuit that forces it and potentials that allow it."""

from math import gcd

from anyrowline.graphs import Graph
from anyrowline.unpaced import check_places, check_run, check_stations, takes_of
from anyrowline.values import has_length, is_integer


def rate(line, plan, places, run):
    """The triple of the rate as a fraction, a circuit whose weight by its turns it is, and potentials that hold."""
    check_stations(line, plan)
    check_places(plan, places, 3)
    check_run(line, run, 4)
    takes = takes_of(line, plan, run)
    graph = Graph(takes, places)
    loads = [sum(times) for times in takes]
    station = loads.index(max(loads))
    circuit = tuple([(station, at, "same") for at in range(len(run))])
    while True:
        fraction = lowest(graph.measured(circuit))
        above, potentials = graph.raised(fraction[0], fraction[1])
        if above is None:
            return (fraction, circuit, potentials)
        circuit = above


def lowest(value):
    """The fraction in lowest terms."""
    top, bottom = value
    shared = gcd(top, bottom)
    return (top // shared, bottom // shared)


def rate_holds(line, plan, places, run, value, circuit, potentials):
    """Whether value is a fraction, the circuit one with this weight by its turns, and the potentials hold for it."""
    check_stations(line, plan)
    check_places(plan, places, 3)
    check_run(line, run, 4)
    if not is_fraction(value):
        return False
    top, bottom = value
    graph = Graph(takes_of(line, plan, run), places)
    measured = graph.measured(circuit)
    if measured is None or measured[0] * bottom != top * measured[1]:
        return False
    return graph.holds(top, bottom, potentials)


def is_fraction(value):
    """Whether value is a pair of integers in lowest terms, the second one above 0."""
    if not has_length(value, 2, 2) or not is_integer(value[0]) or not is_integer(value[1]):
        return False
    return value[1] > 0 and gcd(value[0], value[1]) == 1
