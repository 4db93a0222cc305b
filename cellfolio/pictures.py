"""Cells and pictures: what they are, and what stands where in them."""

from cellfolio.errors import BadCell, BadPicture, BadSize, OutOfPlace

MOST_SIDE = 24
MOST_CELL = 15

# No refusal shows what was handed in: a thing of any kind may fail when it is put into words.


def is_whole_from(thing, least):
    # Python counts True and False as whole numbers; here they are none.
    if not isinstance(thing, int) or isinstance(thing, bool):
        return False
    return least <= thing


def is_whole_within(thing, least, most):
    return is_whole_from(thing, least) and thing <= most


def is_cell(thing):
    return is_whole_within(thing, 0, MOST_CELL)


def is_side(thing):
    return is_whole_within(thing, 1, MOST_SIDE)


def is_list_of(thing, is_one):
    return isinstance(thing, list) and all([is_one(part) for part in thing])


def is_list_of_cells(thing):
    return is_list_of(thing, is_cell)


def are_rows_of(thing, is_one):
    """Whether it has the form of a picture, with such things in the place of cells."""
    if not isinstance(thing, list) or not is_side(len(thing)):
        return False
    if not all([is_list_of(row, is_one) and is_side(len(row)) for row in thing]):
        return False
    return all([len(row) == len(thing[0]) for row in thing])


def is_picture(thing):
    return are_rows_of(thing, is_cell)


def need_picture(picture):
    if not is_picture(picture):
        raise BadPicture("this is no picture")


def need_cell(cell):
    if not is_cell(cell):
        raise BadCell("this is no cell")


def need_cells(cells, most):
    if not is_list_of_cells(cells) or len(cells) > most:
        raise BadCell("this is no list of cells, or of too many")


def need_sides(wide, high):
    if not is_side(wide) or not is_side(high):
        raise BadSize("no picture has such a side")


def need_like_sizes(one, other):
    if one != other:
        raise BadSize("the sizes are unlike")


def need_place(picture, x, y):
    size = size_of(picture)
    if not is_whole_within(x, 0, size[0] - 1) or not is_whole_within(y, 0, size[1] - 1):
        raise OutOfPlace("no cell of the picture stands there")


def size_of(picture):
    need_picture(picture)
    return (len(picture[0]), len(picture))


def blank_picture(wide, high, cell=0):
    need_sides(wide, high)
    need_cell(cell)
    return [[cell] * wide for y in range(high)]


def copied_rows(rows):
    return [list(row) for row in rows]


def cell_at(picture, x, y):
    need_place(picture, x, y)
    return picture[y][x]


def with_cell(picture, x, y, cell):
    need_place(picture, x, y)
    need_cell(cell)
    rows = copied_rows(picture)
    rows[y][x] = cell
    return rows


def unlike_cells(one, other):
    need_like_sizes(size_of(one), size_of(other))
    places = []
    for y, row in enumerate(one):
        for x, cell in enumerate(row):
            if cell != other[y][x]:
                places.append((x, y))
    return places
