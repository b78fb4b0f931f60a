"""The shortest rows that overflow at a station."""

from anyrowline.circles import FAR, NONE
from anyrowline.machines import in_time


def fewest_steps(work, beat, window, most):
    """The steps (ahead, behind, slips, load) of a shortest row that overflows; None if it has more than most pieces.

    Piece by piece, the greatest lateness for each number of slips left and each state is found: behind a greater
    one a row overflows no later.
    """
    costs = work.costs(beat, 1)
    table = [[NONE] * len(work.into) for _ in range(work.levels)]
    table[-1][0] = 0
    tables = [table]
    # What the last piece did not raise leads to nothing new.
    fresh = [None] * (work.levels - 1) + table[-1:]
    for _ in range(most):
        spreads = [None if row is None else work.spread(row) for row in fresh]
        excesses = [work.excesses(costs, spreads, left) for left in range(work.levels)]
        high, left = max([(max(row), left) for left, row in enumerate(excesses) if row is not None])
        if in_time(high) > window:
            return steps_back(work, costs, tables, (left, excesses[left].index(high)), high)
        fresh = [raised(old, row) for old, row in zip(table, excesses)]
        if all([row is None for row in fresh]):
            return None
        table = [old if row is None else row for old, row in zip(table, fresh)]
        tables.append(table)
    return None


def raised(values, excesses):
    """The values as these excesses raise them; None if they raise none."""
    if excesses is None:
        return None
    new = [late if excess <= late or excess < FAR else max(excess, 0) for late, excess in zip(values, excesses)]
    return None if new == values else new


def steps_back(work, costs, tables, place, late):
    """The steps of the row that ends at the place (left, state) behind the last table, the excess being late."""
    steps = []
    for table in reversed(tables):
        step = work.step(costs, table, place, late)
        steps.append(step)
        place = (place[0] + step[2], step[0])
        late = table[place[0]][place[1]]
    steps.reverse()
    return steps
