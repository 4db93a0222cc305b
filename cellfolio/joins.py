"""Pictures set beside, above and over one another, and parted into tiles and put together again."""

from cellfolio.cuts import need_steps, rows_cut_out
from cellfolio.errors import BadPicture, BadSize
from cellfolio.pictures import (copied_rows, is_picture, is_whole_within, need_cell, need_like_sizes, need_picture,
                                need_sides, size_of)


def set_beside(one, other):
    size = size_of(one)
    beside = size_of(other)
    if size[1] != beside[1]:
        raise BadSize("the heights are unlike")
    need_sides(size[0] + beside[0], size[1])
    return [row + other[y] for y, row in enumerate(one)]


def set_above(one, other):
    size = size_of(one)
    beneath = size_of(other)
    if size[0] != beneath[0]:
        raise BadSize("the widths are unlike")
    need_sides(size[0], size[1] + beneath[1])
    return copied_rows(one) + copied_rows(other)


def seen_cell(below, over, x, y, clear):
    """The cell at (x, y) of the picture over it, but the one below where there is none or it is clear."""
    if not is_whole_within(y, 0, len(over) - 1) or not is_whole_within(x, 0, len(over[0]) - 1):
        return below
    return below if over[y][x] == clear else over[y][x]


def laid_over(one, other, left, top, clear=None):
    need_picture(one)
    need_picture(other)
    if clear is not None:
        need_cell(clear)
    rows = []
    for y, row in enumerate(one):
        rows.append([seen_cell(cell, other, x - left, y - top, clear) for x, cell in enumerate(row)])
    return rows


def tiled(picture, across, down):
    size = size_of(picture)
    need_steps(across, down)
    need_sides(size[0] * across, size[1] * down)
    return [picture[y % size[1]] * across for y in range(size[1] * down)]


def tiles_of(picture, wide, high):
    size = size_of(picture)
    need_steps(wide, high)
    if size[0] % wide != 0 or size[1] % high != 0:
        raise BadSize("the picture doesn't part into such tiles")
    tiles = []
    for top in range(0, size[1], high):
        tiles.append([rows_cut_out(picture, left, top, wide, high) for left in range(0, size[0], wide)])
    return tiles


def is_row_of_tiles(thing):
    return isinstance(thing, list) and len(thing) > 0 and all([is_picture(tile) for tile in thing])


def need_tiles(tiles):
    if not isinstance(tiles, list) or len(tiles) == 0:
        raise BadPicture("this is no list of lists of pictures")
    if not all([is_row_of_tiles(line) for line in tiles]):
        raise BadPicture("this is no list of lists of pictures")


def need_like_tiles(tiles):
    size = size_of(tiles[0][0])
    for line in tiles:
        if len(line) != len(tiles[0]):
            raise BadSize("two rows have unlike many tiles")
        for tile in line:
            need_like_sizes(size, size_of(tile))
    need_sides(size[0] * len(tiles[0]), size[1] * len(tiles))


def row_through_tiles(line, y):
    cells = []
    for tile in line:
        cells.extend(tile[y])
    return cells


def from_tiles(tiles):
    need_tiles(tiles)
    need_like_tiles(tiles)
    rows = []
    for line in tiles:
        rows.extend([row_through_tiles(line, y) for y in range(len(line[0]))])
    return rows
