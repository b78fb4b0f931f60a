"""Values of the nodes of a graph, raised along its arcs until none raises any, or a circle that raises without end.

For each node, `into` has the pairs (node, more) of the arcs that lead to it: the value of the node at which the arc
ends is at least that of the one from which it goes and more. No value that is reached is below 0.
"""

# What stands for a value that nothing reaches; whatever is added to it, it stays below FAR.
NONE = -10 ** 15
FAR = -10 ** 14


def settled(values, into):
    """Raise the values until no arc raises any; if there's no end to it, the nodes of a circle that is why."""
    parents = [None] * len(values)
    while swept(values, parents, into):
        loop = circle(parents)
        if loop is not None:
            return loop
    return None


def swept(values, parents, into):
    """Raise each value once, as far as the arcs do, and note from where; whether any was raised."""
    is_raised = False
    for at, pairs in enumerate(into):
        raises = [values[ahead] + more for ahead, more in pairs]
        high = max(raises, default=NONE)
        if high > values[at] and high > FAR:
            values[at] = max(high, 0)
            # A value of 0 owes nothing to what is ahead of it.
            parents[at] = pairs[raises.index(high)][0] if high > 0 else None
            is_raised = True
    return is_raised


def circle(parents):
    """The nodes of a circle of parents, each ahead of the next one; None if there is none."""
    seen = [None] * len(parents)
    for first in range(len(parents)):
        at = first
        while at is not None and seen[at] is None:
            seen[at] = first
            at = parents[at]
        if at is not None and seen[at] == first:
            return circle_through(parents, at)
    return None


def circle_through(parents, at):
    """The nodes of the circle of parents through this one, each ahead of the next one."""
    nodes = [at]
    while parents[nodes[-1]] != at:
        nodes.append(parents[nodes[-1]])
    nodes.reverse()
    return nodes
