"""The best of all plans of a line, with bounds for it and refutations of anything better."""

from anyrowline.plans import check_plans, check_time, check_windows
from anyrowline.search import Search


def best_plan(line, windows, beat):
    """The triple of "plan", a plan that keeps the windows and its bounds, or the pair of "refutation" and its tree."""
    check_windows(windows, 2)
    check_time(beat, 3)
    check_plans(line, len(windows))
    search = Search(line, tuple(windows))
    tree = search.refuted(0, beat)
    if tree is None:
        return ("plan", search.found, search.bounds(beat))
    return ("refutation", tree)


def best_beat(line, windows):
    """The least beat with which a plan keeps the windows, such a plan, and a refutation for a beat of one less."""
    check_windows(windows, 2)
    check_plans(line, len(windows))
    search = Search(line, tuple(windows))
    search.improve(0, 0)
    tree = None if search.best == 0 else search.refuted(0, search.best - 1)
    return (search.best, search.found, tree)


def fewest_stations(line, windows, beat):
    """The fewest of the first stations for a plan, such a plan, and a refutation for one station fewer."""
    check_windows(windows, 2)
    check_time(beat, 3)
    check_plans(line, len(windows))
    search = Search(line, tuple(windows))
    tree = None
    for many in range(1, len(windows) + 1):
        search.many = many
        more = search.refuted(0, beat)
        if more is None:
            return (many, search.found, tree)
        tree = more
    return (None, None, tree)
