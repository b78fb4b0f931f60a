"""The fewest tasks that must move from an old plan."""

from anyrowline.plans import check_old, check_plans, check_time, check_windows
from anyrowline.search import Search


def fewest_moves(line, windows, beat, old):
    """The fewest tasks with another station than in old, a plan for it, and a refutation for one task fewer."""
    check_windows(windows, 2)
    check_time(beat, 3)
    check_old(line, old, 4)
    check_plans(line, len(windows))
    search = MoveSearch(line, tuple(windows), tuple(old))
    search.spare(0, beat)
    if search.found is None:
        return (None, None, search.refuted(0, beat))
    plan = search.found
    if search.fewest == 0:
        return (0, plan, None)
    search.most = search.fewest - 1
    return (search.fewest, plan, search.refuted(0, beat))


class MoveSearch(Search):
    """Goes through the plans of a line, and knows which tasks have another station than in an old plan."""

    def __init__(self, line, windows, old):
        Search.__init__(self, line, windows)
        self.old = old
        # The tasks that are assigned at this moment, to another station than in the old plan.
        self.moved = []
        # How many tasks there may be of these in what is to be refuted; None: any number.
        self.most = None
        # How many the plan that was found last has; more than there may be, if none was found.
        self.fewest = len(old) + 1
        # For each place in the sequence, how many of the tasks from there on move in every plan.
        self.surely = [0]
        for task in reversed(self.sequence):
            self.surely.append(self.surely[-1] + (0 if 0 <= old[task] < len(windows) else 1))
        self.surely.reverse()

    def put(self, task, station):
        """Assign the task to the station."""
        super().put(task, station)
        if self.old[task] != station:
            self.moved.append(task)

    def take(self, task, station):
        """Take the task, which was assigned last, away from the station."""
        super().take(task, station)
        if self.old[task] != station:
            self.moved.pop()

    def spare(self, at, beat):
        """Find the plans that keep the beat, go on from what is assigned and move fewer tasks than all so far."""
        if at == len(self.sequence):
            self.fewest = len(self.moved)
            self.found = tuple(self.plan)
            return
        task = self.sequence[at]
        # The old station comes first, so that plans with few moves are found early.
        for _, station in sorted([(self.old[task] != station, station) for station in range(self.many)]):
            if self.is_fitting(task, station, beat):
                self.put(task, station)
                if len(self.moved) + self.surely[at + 1] < self.fewest:
                    self.spare(at + 1, beat)
                self.take(task, station)

    def end(self, task, station, beat):
        """Why the task cannot be at the station with what is assigned; None if it can."""
        if self.most is not None and self.old[task] != station and len(self.moved) == self.most:
            return ("moved", tuple(sorted(self.moved + [task])))
        return super().end(task, station, beat)
