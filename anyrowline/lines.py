"""Lines: tasks, their order, models, and a machine that says which rows may come."""

from anyrowline.errors import BadModel, BadPair, BadState, BadTask, BadValue, TooMany
from anyrowline.values import are_within, has_length, is_ascending, is_sequence, is_within

MOST_TASKS = 24
MOST_TIME = 10000
MOST_PAIRS = 200
MOST_MODELS = 8
MOST_STATES = 60
MOST_ARCS = 40
MOST_SLIPS = 8
MOST_REPEATED = 40


class Line:
    """A line as it was told; it is never changed."""

    def __init__(self, tasks, order, models, states, start, *, slips=0):
        kept_tasks = checked_tasks(tasks)
        kept_order = checked_order(order, len(kept_tasks))
        kept_models = checked_models(models, len(kept_tasks))
        kept_states = checked_states(states, len(kept_models))
        if not is_within(start, 0, len(kept_states) - 1):
            raise BadValue(5)
        if not is_slips(slips):
            raise BadValue(6)
        self._tasks = kept_tasks
        self._order = kept_order
        self._models = kept_models
        self._states = kept_states
        self._start = start
        self._slips = slips

    @property
    def tasks(self):
        """The pairs (usual, upper) of times."""
        return self._tasks

    @property
    def order(self):
        """The pairs (before, after) of tasks."""
        return self._order

    @property
    def models(self):
        """The ascending tuples of the tasks that the models need."""
        return self._models

    @property
    def states(self):
        """The tuples of arcs (model, next)."""
        return self._states

    @property
    def start(self):
        """The number of the state in which every row begins."""
        return self._start

    @property
    def slips(self):
        """How many times a task may slip over a whole row; None: any number."""
        return self._slips

    def __eq__(self, other):
        return (isinstance(other, Line) and self._tasks == other._tasks and self._order == other._order
                and self._models == other._models and self._states == other._states
                and self._start == other._start and self._slips == other._slips)


def is_slips(value):
    """Whether value may be the slips of a line."""
    return value is None or is_within(value, 0, MOST_SLIPS)


def is_task(value):
    """Whether value is a pair (usual, upper) of times."""
    if not has_length(value, 2, 2):
        return False
    usual, upper = value
    return is_within(upper, 0, MOST_TIME) and is_within(usual, 0, upper)


def checked_tasks(tasks):
    """The tasks as plain tuples, if they are as told."""
    if not is_sequence(tasks) or len(tasks) == 0:
        raise BadValue(1)
    if len(tasks) > MOST_TASKS:
        raise TooMany("tasks")
    for at, task in enumerate(tasks):
        if not is_task(task):
            raise BadTask(at)
    return tuple([tuple(task) for task in tasks])


def is_pair(value, tasks):
    """Whether value is a pair of two of so many tasks that are not the same."""
    return has_length(value, 2, 2) and are_within(value, 0, tasks - 1) and value[0] != value[1]


def checked_order(order, tasks):
    """The pairs of the order of so many tasks as plain tuples, if they are as told."""
    if not is_sequence(order):
        raise BadValue(2)
    if len(order) > MOST_PAIRS:
        raise TooMany("pairs")
    kept = []
    # Bit k of behind[j] is set if the pairs kept so far put task k behind task j.
    behind = [0] * tasks
    for at, pair in enumerate(order):
        if not is_pair(pair, tasks):
            raise BadPair(at)
        before, after = pair
        if (before, after) in kept or (behind[after] >> before) & 1:
            raise BadPair(at)
        kept.append((before, after))
        put_behind(behind, before, after)
    return tuple(kept)


def put_behind(behind, before, after):
    """Put after, and all that is behind it, behind before and all that is ahead of it."""
    later = behind[after] | (1 << after)
    for task in range(len(behind)):
        if task == before or (behind[task] >> before) & 1:
            behind[task] = behind[task] | later


def checked_models(models, tasks):
    """The models over so many tasks as plain tuples, if they are as told."""
    if not is_sequence(models) or len(models) == 0:
        raise BadValue(3)
    if len(models) > MOST_MODELS:
        raise TooMany("models")
    for at, model in enumerate(models):
        if not is_ascending(model, tasks):
            raise BadModel(at)
    return tuple([tuple(model) for model in models])


def is_arc(value, models, states):
    """Whether value is a pair (model, next), of so many models and so many states."""
    return has_length(value, 2, 2) and is_within(value[0], 0, models - 1) and is_within(value[1], 0, states - 1)


def is_state(value, models, states):
    """Whether value is a state: at least one arc, not too many, and none twice."""
    if not has_length(value, 1, MOST_ARCS):
        return False
    seen = []
    for arc in value:
        if not is_arc(arc, models, states) or tuple(arc) in seen:
            return False
        seen.append(tuple(arc))
    return True


def checked_states(states, models):
    """The states over so many models as plain tuples, if they are as told."""
    if not is_sequence(states) or len(states) == 0:
        raise BadValue(4)
    if len(states) > MOST_STATES:
        raise TooMany("states")
    for at, state in enumerate(states):
        if not is_state(state, models, len(states)):
            raise BadState(at)
    return tuple([tuple([tuple(arc) for arc in state]) for state in states])


def with_slips(line, slips):
    """The line with these slips."""
    if not is_slips(slips):
        raise BadValue(2)
    return Line(line.tasks, line.order, line.models, line.states, line.start, slips=slips)


def with_times(line, tasks):
    """The line with these tasks in place of its own, as many."""
    if not is_sequence(tasks) or len(tasks) != len(line.tasks):
        raise BadValue(2)
    return Line(tasks, line.order, line.models, line.states, line.start, slips=line.slips)


def free_line(tasks, order, models, *, slips=0):
    """The line with one state, in which every model may come."""
    # Where models are wrong, Line says so before it looks at the state.
    many = len(models) if is_sequence(models) else 0
    state = [(model, 0) for model in range(many)]
    return Line(tasks, order, models, [state], 0, slips=slips)


def repeated(line, row):
    """The line whose only rows are this row of models again and again."""
    if not has_length(row, 1, MOST_REPEATED) or not are_within(row, 0, len(line.models) - 1):
        raise BadValue(2)
    last = len(row) - 1
    states = [[(model, at + 1 if at < last else 0)] for at, model in enumerate(row)]
    return Line(line.tasks, line.order, line.models, states, 0, slips=line.slips)
