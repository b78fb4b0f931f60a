"""What a set of tasks takes, with so many of them slipped. A set of tasks is an integer, bit k standing for task k."""


def tasks_at(plan, station):
    """The set of the tasks that the plan has at the station."""
    mask = 0
    for task, where in enumerate(plan):
        if where == station:
            mask = mask | (1 << task)
    return mask


def needed_of(line, mask, model):
    """Those tasks of the set that the model needs."""
    return [task for task in line.models[model] if (mask >> task) & 1]


def loads_of(line, mask):
    """For each model the tuple of what its tasks of the set take at most with 0, 1, ... slips.

    If the line's slips are None, all of them slip and there is one number.
    """
    loads = []
    for model in range(len(line.models)):
        times = [line.tasks[task] for task in needed_of(line, mask, model)]
        if line.slips is None:
            loads.append((sum([upper for _, upper in times]),))
        else:
            loads.append(first_loads(times, line.slips))
    return tuple(loads)


def first_loads(times, slips):
    """What tasks of these times take at most with 0, 1, ... slips, as far as there are slips and tasks."""
    loads = [sum([usual for usual, _ in times])]
    for extra in sorted([upper - usual for usual, upper in times], reverse=True)[:slips]:
        loads.append(loads[-1] + extra)
    return tuple(loads)


def slipped_of(line, mask, model, many):
    """So many tasks of the set that the model needs, those that slip by most, ascending.

    If the line's slips are None, all of them.
    """
    tasks = needed_of(line, mask, model)
    if line.slips is None:
        return tuple(tasks)
    ranked = sorted([(line.tasks[task][0] - line.tasks[task][1], task) for task in tasks])
    return tuple(sorted([task for _, task in ranked[:many]]))
