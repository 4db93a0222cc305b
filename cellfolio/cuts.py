"""Pictures cut out, framed, trimmed, thinned and widened."""

from cellfolio.errors import BadSize, OutOfPlace
from cellfolio.pictures import blank_picture, is_whole_from, need_cell, need_picture, need_sides, size_of


def rows_cut_out(picture, left, top, wide, high):
    return [row[left:left + wide] for row in picture[top:top + high]]


def lies_within(start, many, side):
    return is_whole_from(start, 0) and is_whole_from(many, 1) and start + many <= side


def cut_out(picture, left, top, wide, high):
    size = size_of(picture)
    if not lies_within(left, wide, size[0]) or not lies_within(top, high, size[1]):
        raise OutOfPlace("this is no part of the picture")
    return rows_cut_out(picture, left, top, wide, high)


def framed(picture, by, cell=0):
    size = size_of(picture)
    if not is_whole_from(by, 0):
        raise BadSize("this is no whole number from 0 on")
    # The blank picture refuses the sides and then the cell, as is asked here.
    rows = blank_picture(size[0] + 2 * by, size[1] + 2 * by, cell)
    for y, row in enumerate(picture):
        for x, within in enumerate(row):
            rows[y + by][x + by] = within
    return rows


def trimmed(picture, cell=0):
    need_picture(picture)
    need_cell(cell)
    across = [x for x in range(len(picture[0])) if any([row[x] != cell for row in picture])]
    down = [y for y, row in enumerate(picture) if any([within != cell for within in row])]
    if len(down) == 0:
        return [[cell]]
    return rows_cut_out(picture, across[0], down[0], across[-1] - across[0] + 1, down[-1] - down[0] + 1)


def need_steps(across, down):
    if not is_whole_from(across, 1) or not is_whole_from(down, 1):
        raise BadSize("this is no whole number from 1 on")


def thinned_row(row, across):
    return [row[x] for x in range(0, len(row), across)]


def thinned(picture, across, down):
    need_picture(picture)
    need_steps(across, down)
    return [thinned_row(picture[y], across) for y in range(0, len(picture), down)]


def widened_row(row, across):
    return [row[x // across] for x in range(len(row) * across)]


def widened(picture, across, down):
    size = size_of(picture)
    need_steps(across, down)
    need_sides(size[0] * across, size[1] * down)
    return [widened_row(picture[y // down], across) for y in range(size[1] * down)]
