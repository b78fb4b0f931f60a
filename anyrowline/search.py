"""The search for plans, and for trees that tell why there is none."""

from anyrowline.evidence import bounds_of, broken_by
from anyrowline.growth import MOST_LOAD, grown, least_enough
from anyrowline.loads import tasks_at
from anyrowline.machines import Machine


def sequence_of(line):
    """The tasks, each behind those that the order has ahead of it, the ones that weigh most as soon as they may."""
    weights = []
    for task, (usual, upper) in enumerate(line.tasks):
        many = len([model for model in line.models if task in model])
        weights.append(many * (usual if line.slips == 0 else upper))
    sequence = []
    while len(sequence) < len(weights):
        held = [after for before, after in line.order if before not in sequence]
        free = [(-weights[task], task) for task in range(len(weights)) if task not in sequence and task not in held]
        sequence.append(min(free)[1])
    return sequence


class Search:
    """Goes through the plans of a line, task by task."""

    def __init__(self, line, windows):
        self.machine = Machine(line)
        self.windows = windows
        # How many of the windows count.
        self.many = len(windows)
        self.sequence = sequence_of(line)
        self.befores = [[] for _ in line.tasks]
        for before, after in line.order:
            self.befores[after].append(before)
        # What is assigned at this moment: the stations of tasks, and the sets of tasks of stations.
        self.plan = [0] * len(line.tasks)
        self.masks = [0] * len(windows)
        # The plan that was found last, and the beat that it needs.
        self.found = None
        self.best = MOST_LOAD + 1
        # What is told against a set of tasks at one station with a beat.
        self.told = {}

    def put(self, task, station):
        """Assign the task to the station."""
        self.plan[task] = station
        self.masks[station] = self.masks[station] | (1 << task)

    def take(self, task, station):
        """Take the task away from the station."""
        self.masks[station] = self.masks[station] ^ (1 << task)

    def before_behind(self, task, station):
        """A task that the order has ahead of this one, but that is behind this station; None if there is none."""
        for before in self.befores[task]:
            if self.plan[before] > station:
                return before
        return None

    def needed(self, task, station, beat, limit):
        """The least beat from this one on that the station needs with the task, too; any from limit on, if no less."""
        work = self.machine.work(self.masks[station] | (1 << task))
        return least_enough(work, self.windows[station], beat, limit)

    def improve(self, at, beat):
        """Find the plans better than the best so far that go on from what is assigned, which needs this beat."""
        if at == len(self.sequence):
            self.best = beat
            self.found = tuple(self.plan)
            return
        task = self.sequence[at]
        ways = []
        for station in range(self.many):
            if self.before_behind(task, station) is None:
                ways.append((self.needed(task, station, beat, self.best), station))
        for more, station in sorted(ways):
            if more < self.best:
                self.put(task, station)
                self.improve(at + 1, more)
                self.take(task, station)

    def refuted(self, at, beat):
        """A tree that refutes all plans that go on from what is assigned; None if one keeps the beat, which is kept."""
        if at == len(self.sequence):
            self.found = tuple(self.plan)
            return None
        task = self.sequence[at]
        branches = []
        for station in range(self.many):
            tree = self.end(task, station, beat)
            if tree is None:
                self.put(task, station)
                tree = self.refuted(at + 1, beat)
                self.take(task, station)
            if tree is None:
                return None
            branches.append(tree)
        return ("assign", task, tuple(branches))

    def is_fitting(self, task, station, beat):
        """Whether the task can be at the station with what is assigned."""
        return self.before_behind(task, station) is None and self.needed(task, station, beat, beat + 1) == beat

    def end(self, task, station, beat):
        """Why the task cannot be at the station with what is assigned; None if it can."""
        before = self.before_behind(task, station)
        if before is not None:
            return ("order", before, task)
        if self.needed(task, station, beat, beat + 1) == beat:
            return None
        word, told = self.against(self.masks[station] | (1 << task), beat)
        return (word, station, told)

    def against(self, mask, beat):
        """A row or a loop against this set of tasks at one station, for all windows that it does not keep."""
        if (mask, beat) not in self.told:
            growth = grown(self.machine.work(mask), beat)
            self.told[(mask, beat)] = broken_by(self.machine, mask, growth)
        return self.told[(mask, beat)]

    def bounds(self, beat):
        """The bounds of all stations that count, with the plan that was found and a beat that it keeps."""
        works = [self.machine.work(tasks_at(self.found, station)) for station in range(self.many)]
        return tuple([bounds_of(self.machine, grown(work, beat)) for work in works])
