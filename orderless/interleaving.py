"""Several codes that run together on the same cells, by schedules."""

from orderless.machines import first_run, step_of


def interleaved(cells, state, codes, schedule):
    """The values of the cells at the end: behind the steps of the schedule, and then the rest of each code."""
    runs = [first_run() for _ in codes]
    values = state
    for k in schedule:
        _, runs[k], values = step_of(cells, codes[k], runs[k], values)
    for code, left in zip(codes, list(runs)):
        run = left
        while run[0] is not None:
            _, run, values = step_of(cells, code, run, values)
    return values


def schedules_of(cells, state, codes):
    """A generator of all full schedules, ascending."""
    begun = [((), tuple([first_run() for _ in codes]), state)]
    while begun:
        schedule, runs, values = begun.pop()
        longer = _longer_by_one(cells, codes, runs, values)
        if longer == []:
            yield schedule
        for k, others, after in longer[::-1]:
            begun.append((schedule + (k,), others, after))


def _longer_by_one(cells, codes, runs, values):
    """A list of (k, runs, values) for each code k that does a load or store next, with what is behind this step."""
    found = []
    for k, code in enumerate(codes):
        (word, _, _, _), run, after = step_of(cells, code, runs[k], values)
        if word in ("load", "store"):
            found.append((k, runs[:k] + (run,) + runs[k + 1:], after))
    return found
