"""Masks: tuples (wide, rows) that tell by the bits of a number for each row which cells they have."""

from cellfolio.bits import bit_at, many_bits, places_of_bits, with_bit
from cellfolio.errors import BadCell, BadMask
from cellfolio.pictures import (is_list_of_cells, is_side, is_whole_within, need_cell, need_like_sizes, need_picture,
                                need_sides, size_of)


def full_row(wide):
    return (1 << wide) - 1


def is_mask(thing):
    if not isinstance(thing, tuple) or len(thing) != 2:
        return False
    if not is_side(thing[0]):
        return False
    if not isinstance(thing[1], tuple) or not is_side(len(thing[1])):
        return False
    return all([is_whole_within(row, 0, full_row(thing[0])) for row in thing[1]])


def need_mask(mask):
    if not is_mask(mask):
        raise BadMask("this is no mask")


def mask_size(mask):
    need_mask(mask)
    return (mask[0], len(mask[1]))


def full_mask(wide, high):
    need_sides(wide, high)
    return (wide, (full_row(wide),) * high)


def bits_of_numbers(numbers):
    bits = 0
    for number in numbers:
        bits = with_bit(bits, number)
    return bits


def mask_of(picture, cells):
    need_picture(picture)
    if not is_list_of_cells(cells):
        raise BadCell("this is no list of cells")
    wanted = bits_of_numbers(cells)
    rows = [bits_of_numbers([x for x, cell in enumerate(row) if bit_at(wanted, cell)]) for row in picture]
    return (len(picture[0]), tuple(rows))


def row_by_row(one, other, joined):
    need_like_sizes(mask_size(one), mask_size(other))
    return (one[0], tuple([joined(row, other[1][y]) for y, row in enumerate(one[1])]))


def both_masks(one, other):
    return row_by_row(one, other, lambda row, beside: row & beside)


def either_mask(one, other):
    return row_by_row(one, other, lambda row, beside: row | beside)


def one_mask(one, other):
    return row_by_row(one, other, lambda row, beside: row ^ beside)


def less_mask(one, other):
    return row_by_row(one, other, lambda row, beside: row ^ (row & beside))


def other_mask(mask):
    need_mask(mask)
    return (mask[0], tuple([full_row(mask[0]) ^ row for row in mask[1]]))


def moved_row(row, right, wide):
    # A shift of the width or more leaves nothing, and might make a needlessly great number.
    if abs(right) >= wide:
        return 0
    if right < 0:
        return row >> -right
    return (row << right) & full_row(wide)


def row_of_mask(mask, y):
    if is_whole_within(y, 0, len(mask[1]) - 1):
        return mask[1][y]
    return 0


def moved_mask(mask, right, down):
    need_mask(mask)
    rows = [moved_row(row_of_mask(mask, y - down), right, mask[0]) for y in range(len(mask[1]))]
    return (mask[0], tuple(rows))


def many_in_mask(mask):
    need_mask(mask)
    return sum([many_bits(row) for row in mask[1]])


def cells_in_mask(mask):
    need_mask(mask)
    places = []
    for y, row in enumerate(mask[1]):
        places.extend([(x, y) for x in places_of_bits(row)])
    return places


def painted_row(row, bits, cell):
    return [cell if bit_at(bits, x) else was for x, was in enumerate(row)]


def painted(picture, mask, cell):
    need_like_sizes(size_of(picture), mask_size(mask))
    need_cell(cell)
    return [painted_row(row, mask[1][y], cell) for y, row in enumerate(picture)]


def chosen_row(row, beside, bits):
    return [beside[x] if bit_at(bits, x) else cell for x, cell in enumerate(row)]


def chosen_cells(one, other, mask):
    size = size_of(one)
    beside = size_of(other)
    chosen = mask_size(mask)
    need_like_sizes(size, beside)
    need_like_sizes(size, chosen)
    return [chosen_row(row, other[y], mask[1][y]) for y, row in enumerate(one)]
