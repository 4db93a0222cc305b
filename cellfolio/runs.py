"""Runs: lists of cells made short as tuples (count, cell), and the texts of these."""

from cellfolio.errors import BadRuns
from cellfolio.pictures import is_cell, is_list_of, is_whole_within, need_cells

MOST_LISTED = 576
FIGURES = "0123456789"
LETTERS = "abcdefghijklmnop"


def runs_of(cells):
    need_cells(cells, MOST_LISTED)
    runs = []
    for cell in cells:
        if len(runs) > 0 and runs[-1][1] == cell:
            runs[-1] = (runs[-1][0] + 1, cell)
        else:
            runs.append((1, cell))
    return runs


def is_run(thing):
    if not isinstance(thing, tuple) or len(thing) != 2:
        return False
    return is_whole_within(thing[0], 1, MOST_LISTED) and is_cell(thing[1])


def are_runs(thing):
    if not is_list_of(thing, is_run):
        return False
    if sum([run[0] for run in thing]) > MOST_LISTED:
        return False
    return all([thing[place - 1][1] != thing[place][1] for place in range(1, len(thing))])


def need_runs(runs):
    if not are_runs(runs):
        raise BadRuns("these are no runs")


def cells_by_runs(runs):
    need_runs(runs)
    cells = []
    for run in runs:
        cells.extend([run[1]] * run[0])
    return cells


def run_text(run):
    figures = "" if run[0] == 1 else str(run[0])
    return figures + LETTERS[run[1]]


def runs_text(runs):
    need_runs(runs)
    return "".join([run_text(run) for run in runs])


def runs_as_read(text):
    """What the text comes to, if it is one of runs at all; of any other text something else."""
    runs = []
    count = 0
    for sign in text:
        if sign in FIGURES:
            # What is beyond the most is refused in any case, so the number needn't grow further.
            count = min(10 * count + FIGURES.index(sign), MOST_LISTED + 1)
        else:
            runs.append((max(count, 1), LETTERS.find(sign)))
            count = 0
    return runs


def runs_by_text(text):
    if not isinstance(text, str):
        raise BadRuns("this is no text")
    runs = runs_as_read(text)
    # Runs have one text alone, so whatever was read too mildly is seen when they are written again,
    # where it isn't refused already.
    if runs_text(runs) != text:
        raise BadRuns("this is no text of runs")
    return runs
