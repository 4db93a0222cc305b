"""How often cells are used in a picture; pictures with their colours put in order, and with fewer of them."""

from cellfolio.colours import apart
from cellfolio.errors import BadSize
from cellfolio.palettes import MOST_COLOURS, Palette, need_shown
from cellfolio.pictures import MOST_CELL, copied_rows, is_whole_within
from cellfolio.rows import all_cells


def cell_counts(picture):
    cells = all_cells(picture)
    return [cells.count(cell) for cell in range(MOST_CELL + 1)]


def used_cells(counts):
    return [cell for cell, many in enumerate(counts) if many > 0]


def ordered_picture(picture, palette):
    need_shown(picture, palette)
    counts = cell_counts(picture)
    # Sorting keeps those of like counts as they stand: the lesser cell ahead.
    cells = sorted(used_cells(counts), key=lambda cell: -counts[cell])
    ordered = Palette([palette.colour_of(cell) for cell in cells])
    return (ordered, [[cells.index(cell) for cell in row] for row in picture])


def least_used(counts):
    """Of the cells that are used the one used least, of several the greatest."""
    return min(used_cells(counts), key=lambda cell: (counts[cell], -cell))


def nearest_used(counts, palette, cell):
    """Of the other cells that are used the one whose colour is least apart from this one's, of several the least."""
    colour = palette.colour_of(cell)
    others = [other for other in used_cells(counts) if other != cell]
    return min(others, key=lambda other: (apart(colour, palette.colour_of(other)), other))


def with_cells_changed(picture, old, new):
    return [[new if cell == old else cell for cell in row] for row in picture]


def fewer_cells(picture, palette, many):
    need_shown(picture, palette)
    if not is_whole_within(many, 1, MOST_COLOURS):
        raise BadSize("this is no whole number from 1 to 16")
    rows = copied_rows(picture)
    counts = cell_counts(rows)
    while len(used_cells(counts)) > many:
        gone = least_used(counts)
        rows = with_cells_changed(rows, gone, nearest_used(counts, palette, gone))
        counts = cell_counts(rows)
    return rows
