"""The machine of a line, as far as rows come, and how late its pieces make a station.

Latenesses are counted in units of which SCALE make one unit of time, less one for each piece since the station was
last on time. So of all ways to the greatest lateness one of the fewest pieces counts, and a circle in the machine
that gains nothing loses a little: going round and round comes to an end, and each way can be followed back.
"""

from anyrowline.circles import FAR, NONE
from anyrowline.loads import loads_of, slipped_of

# More than the pieces of any row that is looked at.
SCALE = 2048


def in_time(scaled):
    """A scaled lateness in units of time."""
    return -(-scaled // SCALE)


def cost_of(load, beat, parts):
    """What a piece with this load adds to the scaled lateness, the beat being told in so many parts of a unit."""
    return SCALE * (load * parts - beat) - 1


class Machine:
    """The states that rows of a line come to, numbered anew from 0, the line's start, by how soon they are reached."""

    def __init__(self, line):
        self.line = line
        self.levels = 1 if line.slips is None else line.slips + 1
        # The state of each number, and the piece that reaches it first: the number ahead and the arc.
        self.originals = [line.start]
        self.ways = [None]
        numbers = {line.start: 0}
        at = 0
        while at < len(self.originals):
            state = self.originals[at]
            for arc, (_, to) in enumerate(line.states[state]):
                if to not in numbers:
                    numbers[to] = len(self.originals)
                    self.originals.append(to)
                    self.ways.append((at, arc))
            at += 1
        self.arcs = []
        for state in self.originals:
            self.arcs.append([(model, numbers[to]) for model, to in line.states[state]])
        # Sets of tasks that take the same in each model share what is found out about them.
        self.works = {}
        self.works_of_loads = {}

    def work(self, mask):
        """What a station with this set of tasks takes."""
        if mask not in self.works:
            loads = loads_of(self.line, mask)
            if loads not in self.works_of_loads:
                self.works_of_loads[loads] = Work(self, loads)
            self.works[mask] = self.works_of_loads[loads]
        return self.works[mask]

    def head(self, at):
        """A shortest list of pieces without slips from the start to the state of this number."""
        pieces = []
        while self.ways[at] is not None:
            at, arc = self.ways[at]
            pieces.append((arc, ()))
        pieces.reverse()
        return pieces

    def pieces(self, mask, steps):
        """The pieces for the steps (ahead, behind, slips, load) of a station with this set of tasks."""
        loads = loads_of(self.line, mask)
        return [self.piece(mask, loads, step) for step in steps]

    def piece(self, mask, loads, step):
        """The piece for one step: a piece that leads there and takes this load with so many slips."""
        ahead, behind, slips, load = step
        fitting = [(arc, model) for arc, (model, to) in enumerate(self.arcs[ahead])
                   if to == behind and slips < len(loads[model]) and loads[model][slips] == load]
        arc, model = fitting[0]
        return (arc, slipped_of(self.line, mask, model, slips))


class Work:
    """What a station takes on the arcs of a machine."""

    def __init__(self, machine, loads):
        self.levels = machine.levels
        # A slot is a state and the loads of a piece that may come in it; `into` has the slots that lead to each state.
        self.sources = []
        self.kinds = []
        self.into = [[] for _ in machine.originals]
        # For each state the pairs of a state ahead of it and the greatest load without a slip from there.
        self.steady = [[] for _ in machine.originals]
        # For each window the least and the greatest number that the least beat for it may still be.
        self.spans = {}
        for state, arcs in enumerate(machine.arcs):
            self.add_state(state, [(loads[model], to) for model, to in arcs])

    def add_state(self, state, arcs):
        """Number the slots of one state, and note where its arcs (loads, to) lead."""
        slots = {}
        greatest = {}
        seen = {}
        for kind, to in arcs:
            if kind not in slots:
                slots[kind] = len(self.sources)
                self.sources.append(state)
                self.kinds.append(kind)
            if (kind, to) not in seen:
                seen[(kind, to)] = True
                self.into[to].append(slots[kind])
                greatest[to] = max(kind[0], greatest.get(to, 0))
        for to, load in greatest.items():
            self.steady[to].append((state, load))

    def costs(self, beat, parts):
        """By the number of slips, for each slot what a piece adds to the lateness; NONE if it cannot slip so.

        The beat and the latenesses are told in so many parts of a unit of time.
        """
        many = min(self.levels, max([len(kind) for kind in self.kinds]))
        costs = []
        for slips in range(many):
            costs.append([cost_of(kind[slips], beat, parts) if slips < len(kind) else NONE for kind in self.kinds])
        return costs

    def spread(self, values):
        """By slots what the values, by states, are ahead of a piece."""
        return [values[source] for source in self.sources]

    def excesses(self, costs, spreads, left):
        """For each state the greatest excess over the beat behind a piece, so many slips being left then.

        The latenesses ahead of it are told by the slips left and by slots. None if a piece comes so from none of them.
        """
        slots = None
        for cost, late in zip(costs, spreads[left:]):
            if late is not None and slots is None:
                slots = [ahead + more for ahead, more in zip(late, cost)]
            elif late is not None:
                slots = [old if old > ahead + more else ahead + more for old, ahead, more in zip(slots, late, cost)]
        if slots is None:
            return None
        return [max([slots[slot] for slot in into], default=NONE) for into in self.into]

    def step(self, costs, table, place, late):
        """A step (ahead, behind, slips, load) by which the station comes to be this late at the place (left, behind).

        The table has the latenesses ahead of the step, by the slips left and by states.
        """
        left, behind = place
        found = []
        for slips in range(min(len(costs), self.levels - left)):
            values = table[left + slips]
            for slot in self.into[behind]:
                excess = values[self.sources[slot]] + costs[slips][slot]
                if excess > FAR and max(excess, 0) == late:
                    found.append((self.sources[slot], behind, slips, self.kinds[slot][slips]))
        return found[0]
