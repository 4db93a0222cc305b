"""Masks (4), what is refused and kept (1)."""

import unittest

from cellfolio.errors import BadCell, BadMask, BadPicture, BadSize
from cellfolio.masks import (both_masks, cells_in_mask, chosen_cells, either_mask, full_mask, is_mask, less_mask,
                             many_in_mask, mask_of, moved_mask, one_mask, other_mask, painted)
from tests.things import (Case, made_mask, made_picture, mask_by, no_cells, no_masks, no_pictures, no_sides, odd_things,
                          places_in, row_twice)

SIZES = [(1, 1), (1, 2), (2, 1), (3, 2), (2, 3), (5, 5), (1, 24), (24, 1), (24, 23), (23, 24), (24, 24)]
BY_TWO = [both_masks, either_mask, one_mask, less_mask]


def empty_mask(wide, high):
    return (wide, (0,) * high)


def whole_mask(wide, high):
    return (wide, (2 ** wide - 1,) * high)


def some_masks(wide, high):
    """Empty, full and mixed ones of one size."""
    return [empty_mask(wide, high), whole_mask(wide, high), made_mask(wide, high),
            mask_by(wide, high, lambda x, y: (x + y) % 2 == 0), mask_by(wide, high, lambda x, y: x == 0),
            mask_by(wide, high, lambda x, y: y == high - 1), mask_by(wide, high, lambda x, y: x == wide - 1)]


class TestInterface(Case):

    def test_arguments(self):
        self.check_arguments(is_mask, ["thing"])
        self.check_arguments(full_mask, ["wide", "high"])
        self.check_arguments(mask_of, ["picture", "cells"])
        for function in BY_TWO:
            self.check_arguments(function, ["one", "other"])
        self.check_arguments(other_mask, ["mask"])
        self.check_arguments(moved_mask, ["mask", "right", "down"])
        self.check_arguments(many_in_mask, ["mask"])
        self.check_arguments(cells_in_mask, ["mask"])
        self.check_arguments(painted, ["picture", "mask", "cell"])
        self.check_arguments(chosen_cells, ["one", "other", "mask"])


class TestIsMask(Case):

    def test_sizes(self):
        for wide in range(1, 25):
            for high in range(1, 25):
                with self.subTest(wide=wide, high=high):
                    for mask in [empty_mask(wide, high), whole_mask(wide, high), made_mask(wide, high)]:
                        self.assertIs(is_mask(mask), True)

    def test_a_row_at_its_bounds(self):
        for wide in range(1, 25):
            with self.subTest(wide=wide):
                self.assertIs(is_mask((wide, (0,))), True)
                self.assertIs(is_mask((wide, (2 ** wide - 1,))), True)
                self.assertIs(is_mask((wide, (2 ** wide - 1, 0, 1))), True)
                self.assertIs(is_mask((wide, (2 ** wide,))), False)
                self.assertIs(is_mask((wide, (-1,))), False)

    def test_width_at_its_bounds(self):
        self.assertIs(is_mask((0, (0,))), False)
        self.assertIs(is_mask((1, (0,))), True)
        self.assertIs(is_mask((24, (0,))), True)
        self.assertIs(is_mask((25, (0,))), False)
        self.assertIs(is_mask((True, (0,))), False)

    def test_rows_at_their_bounds(self):
        self.assertIs(is_mask((1, ())), False)
        self.assertIs(is_mask((1, (0,) * 24)), True)
        self.assertIs(is_mask((1, (0,) * 25)), False)
        self.assertIs(is_mask((1, [0])), False)

    def test_no_masks(self):
        for what, thing in no_masks():
            with self.subTest(what=what):
                self.assertIs(is_mask(thing), False)

    def test_a_wrong_row_at_any_place(self):
        for wrong in [-1, 32, True, False, None, "0", 1.0, (1,), [1]]:
            for place in range(6):
                rows = [0, 1, 2, 31, 16, 5]
                rows[place] = wrong
                with self.subTest(wrong=wrong, place=place):
                    self.assertIs(is_mask((5, tuple(rows))), False)


class TestFullMask(Case):

    def test_sizes(self):
        for wide in range(1, 25):
            for high in range(1, 25):
                with self.subTest(wide=wide, high=high):
                    self.check_same(full_mask(wide, high), whole_mask(wide, high))

    def test_written_out(self):
        self.check_told((1, (1,)), full_mask, 1, 1)
        self.check_told((3, (7, 7)), full_mask, 3, 2)
        self.check_told((24, (16777215,)), full_mask, 24, 1)
        self.check_told((1, (1,) * 24), full_mask, 1, 24)
        self.check_told((24, (16777215,) * 24), full_mask, 24, 24)

    def test_no_sides(self):
        for what, side in no_sides():
            with self.subTest(what=what):
                self.check_refused(BadSize, full_mask, side, 1)
                self.check_refused(BadSize, full_mask, 1, side)
                self.check_refused(BadSize, full_mask, 24, side)
                self.check_refused(BadSize, full_mask, side, 24)
                self.check_refused(BadSize, full_mask, side, side)


class TestMaskOf(Case):

    def test_the_lowest_bit_is_the_left_cell(self):
        self.check_told((4, (1,)), mask_of, [[5, 0, 0, 0]], [5])
        self.check_told((4, (8,)), mask_of, [[0, 0, 0, 5]], [5])
        self.check_told((3, (6, 1)), mask_of, [[0, 5, 5], [5, 0, 0]], [5])
        self.check_told((3, (2, 0, 5)), mask_of, [[1, 5, 1], [1, 1, 1], [5, 1, 5]], [5])

    def test_no_cells_asked(self):
        for wide, high in SIZES:
            with self.subTest(wide=wide, high=high):
                self.check_told(empty_mask(wide, high), mask_of, made_picture(wide, high), [])

    def test_each_single_cell(self):
        for wide, high in SIZES:
            for cell in range(16):
                due = mask_by(wide, high, lambda x, y: (7 * x + 5 * y + x * y) % 16 == cell)
                with self.subTest(wide=wide, high=high, cell=cell):
                    self.check_told(due, mask_of, made_picture(wide, high), [cell])

    def test_several_in_any_order_twice_or_not(self):
        lists = [[0, 15], [15, 0], [3, 3], [9, 1, 9, 1, 1], [4, 7, 10, 2], list(range(16)), list(range(15, -1, -1)) * 2,
                 [0] * 600]
        for cells in lists:
            for wide, high in SIZES:
                due = mask_by(wide, high, lambda x, y: (7 * x + 5 * y + x * y) % 16 in cells)
                with self.subTest(wide=wide, high=high, cells=cells):
                    self.check_told(due, mask_of, made_picture(wide, high), list(cells))

    def test_cells_that_are_not_there(self):
        self.check_told((2, (0, 0)), mask_of, [[1, 2], [3, 4]], [5, 6, 0])
        self.check_told((2, (2, 0)), mask_of, [[1, 2], [3, 4]], [5, 2, 0])

    def test_no_picture(self):
        for what, thing in no_pictures():
            with self.subTest(what=what):
                self.check_refused(BadPicture, mask_of, thing, [])
                self.check_refused(BadPicture, mask_of, thing, [0])

    def test_no_list_of_cells(self):
        pairs = odd_things() + [("a cell", 0), ("a text", "01"), ("an empty text", ""), ("a tuple of cells", (0, 1))]
        pairs += [("a picture", [[0, 1]]), ("an empty list in it", [[]]), ("a text in it", ["0"]), ("a mask", (1, (1,)))]
        for what, thing in pairs:
            with self.subTest(what=what):
                self.check_refused(BadCell, mask_of, [[0, 1]], thing)

    def test_a_thing_that_is_no_cell_at_any_place(self):
        for what, thing in no_cells():
            for place in range(4):
                cells = [1, 2, 3, 1]
                cells[place] = thing
                with self.subTest(what=what, place=place):
                    self.check_refused(BadCell, mask_of, [[0, 1], [2, 3]], cells)

    def test_the_picture_ahead_of_the_cells(self):
        for what, thing in no_pictures():
            for cells in [None, (0,), [16], [True], "0"]:
                with self.subTest(what=what, cells=cells):
                    self.check_refused(BadPicture, mask_of, thing, cells)


class TestTwoMasks(Case):

    def check_by_places(self, function, stands):
        for wide, high in SIZES:
            for one in some_masks(wide, high):
                for other in some_masks(wide, high):
                    have, beside = set(places_in(one)), set(places_in(other))
                    due = mask_by(wide, high, lambda x, y: stands((x, y) in have, (x, y) in beside))
                    with self.subTest(one=one, other=other):
                        self.check_same(function(one, other), due)

    def test_both(self):
        self.check_by_places(both_masks, lambda one, other: one and other)

    def test_either(self):
        self.check_by_places(either_mask, lambda one, other: one or other)

    def test_just_one(self):
        self.check_by_places(one_mask, lambda one, other: one != other)

    def test_one_less_the_other(self):
        self.check_by_places(less_mask, lambda one, other: one and not other)

    def test_written_out(self):
        one = (4, (12, 1, 15))
        other = (4, (10, 1, 0))
        self.check_told((4, (8, 1, 0)), both_masks, one, other)
        self.check_told((4, (14, 1, 15)), either_mask, one, other)
        self.check_told((4, (6, 0, 15)), one_mask, one, other)
        self.check_told((4, (4, 0, 15)), less_mask, one, other)
        self.check_told((4, (2, 0, 0)), less_mask, other, one)

    def test_the_other_mask(self):
        for wide, high in SIZES:
            for mask in some_masks(wide, high):
                have = set(places_in(mask))
                due = mask_by(wide, high, lambda x, y: (x, y) not in have)
                with self.subTest(mask=mask):
                    self.check_told(due, other_mask, mask)
                    self.check_same(other_mask(due), mask)
        self.check_told((4, (3, 14, 0, 15)), other_mask, (4, (12, 1, 15, 0)))

    def test_unlike_sizes(self):
        sizes = [(1, 1), (1, 2), (2, 1), (2, 2), (2, 3), (3, 2), (1, 24), (24, 1), (24, 24), (23, 24), (24, 23)]
        for one in sizes:
            for other in sizes:
                if one != other:
                    for function in BY_TWO:
                        with self.subTest(one=one, other=other, function=function.__name__):
                            self.check_refused(BadSize, function, made_mask(*one), made_mask(*other))
                            self.check_refused(BadSize, function, empty_mask(*one), empty_mask(*other))

    def test_no_mask_ahead_of_the_sizes(self):
        for what, thing in no_masks():
            for function in BY_TWO:
                with self.subTest(what=what, function=function.__name__):
                    self.check_refused(BadMask, function, thing, (3, (1, 2)))
                    self.check_refused(BadMask, function, (3, (1, 2)), thing)
                    self.check_refused(BadMask, function, (1, (1,)), thing)
                    self.check_refused(BadMask, function, thing, thing)
            with self.subTest(what=what):
                self.check_refused(BadMask, other_mask, thing)


class TestMovedMask(Case):

    def test_everywhere(self):
        for wide, high in [(1, 1), (3, 2), (2, 4), (24, 1), (1, 24)]:
            for mask in some_masks(wide, high):
                have = set(places_in(mask))
                for right in range(-wide - 2, wide + 3):
                    for down in range(-high - 2, high + 3):
                        due = mask_by(wide, high, lambda x, y: (x - right, y - down) in have)
                        with self.subTest(mask=mask, right=right, down=down):
                            self.check_same(moved_mask(mask, right, down), due)

    def test_steps_of_the_greatest(self):
        mask = made_mask(24, 24)
        have = set(places_in(mask))
        for right in [-100, -25, -24, -23, -1, 0, 1, 23, 24, 25, 100]:
            for down in [-100, -25, -24, -23, -1, 0, 1, 23, 24, 25, 100]:
                due = mask_by(24, 24, lambda x, y: (x - right, y - down) in have)
                with self.subTest(right=right, down=down):
                    self.check_told(due, moved_mask, mask, right, down)

    def test_written_out(self):
        mask = (3, (1, 6))
        self.check_told((3, (1, 6)), moved_mask, mask, 0, 0)
        self.check_told((3, (2, 4)), moved_mask, mask, 1, 0)
        self.check_told((3, (0, 3)), moved_mask, mask, -1, 0)
        self.check_told((3, (0, 1)), moved_mask, mask, 0, 1)
        self.check_told((3, (6, 0)), moved_mask, mask, 0, -1)
        self.check_told((3, (4, 0)), moved_mask, mask, 2, 0)
        self.check_told((3, (0, 0)), moved_mask, mask, 3, 0)
        self.check_told((3, (0, 0)), moved_mask, mask, -3, 0)
        self.check_told((3, (0, 0)), moved_mask, mask, 0, 2)
        self.check_told((3, (0, 0)), moved_mask, mask, 0, -2)

    def test_far_away(self):
        for right, down in [(100, 0), (-100, 0), (0, 100), (0, -100), (100, 100), (-100, -100), (100, -100), (120, 3)]:
            with self.subTest(right=right, down=down):
                self.check_told((5, (0, 0, 0)), moved_mask, (5, (31, 31, 31)), right, down)

    def test_refused(self):
        for what, thing in no_masks():
            with self.subTest(what=what):
                self.check_refused(BadMask, moved_mask, thing, 0, 0)
                self.check_refused(BadMask, moved_mask, thing, 1, -1)
                self.check_refused(BadMask, moved_mask, thing, 100, 100)


class TestCellsInMask(Case):

    def test_sizes(self):
        for wide, high in SIZES:
            for mask in some_masks(wide, high):
                with self.subTest(mask=mask):
                    self.check_same(many_in_mask(mask), len(places_in(mask)))
                    self.check_told(places_in(mask), cells_in_mask, mask)

    def test_written_out(self):
        self.check_told([], cells_in_mask, (3, (0, 0)))
        self.check_told([(0, 0), (2, 0), (1, 1)], cells_in_mask, (3, (5, 2)))
        self.check_told([(2, 0), (0, 1), (1, 1)], cells_in_mask, (3, (4, 3)))
        self.check_told([(0, 0)], cells_in_mask, (1, (1,)))
        self.check_told([(23, 23)], cells_in_mask, (24, (0,) * 23 + (2 ** 23,)))
        self.check_told(0, many_in_mask, (3, (0, 0)))
        self.check_told(3, many_in_mask, (3, (5, 2)))
        self.check_told(576, many_in_mask, whole_mask(24, 24))

    def test_the_list_may_be_changed(self):
        mask = (2, (3, 1))
        places = cells_in_mask(mask)
        places.append((9, 9))
        places[0] = None
        self.check_same(cells_in_mask(mask), [(0, 0), (1, 0), (0, 1)])
        self.check_same(mask, (2, (3, 1)))

    def test_refused(self):
        for what, thing in no_masks():
            with self.subTest(what=what):
                self.check_refused(BadMask, many_in_mask, thing)
                self.check_refused(BadMask, cells_in_mask, thing)


class TestPainted(Case):

    def test_cell_by_cell(self):
        for wide, high in SIZES:
            for mask in some_masks(wide, high):
                have = places_in(mask)
                for cell in [0, 7, 15]:
                    due = made_picture(wide, high)
                    for x, y in have:
                        due[y][x] = cell
                    with self.subTest(mask=mask, cell=cell):
                        self.check_told(due, painted, made_picture(wide, high), mask, cell)

    def test_written_out(self):
        self.check_told([[9, 2, 9], [4, 9, 6]], painted, [[1, 2, 3], [4, 5, 6]], (3, (5, 2)), 9)
        for cell in range(16):
            self.check_told([[cell, 2]], painted, [[1, 2]], (2, (1,)), cell)

    def test_one_row_handed_in_twice(self):
        self.check_told([[9, 2], [1, 2]], painted, row_twice(), (2, (1, 0)), 9)

    def test_no_picture(self):
        for what, thing in no_pictures():
            with self.subTest(what=what):
                self.check_refused(BadPicture, painted, thing, (1, (1,)), 0)
                self.check_refused(BadPicture, painted, thing, (1, (2,)), 0)
                self.check_refused(BadPicture, painted, thing, (24, (1,)), 0)
                self.check_refused(BadPicture, painted, thing, (1, (1,)), 16)
                self.check_refused(BadPicture, painted, thing, None, None)

    def test_no_mask(self):
        for what, thing in no_masks():
            with self.subTest(what=what):
                self.check_refused(BadMask, painted, made_picture(1, 1), thing, 0)
                self.check_refused(BadMask, painted, made_picture(3, 2), thing, 16)
                self.check_refused(BadMask, painted, made_picture(24, 24), thing, None)

    def test_unlike_sizes(self):
        for size in SIZES:
            for other in SIZES:
                if size != other:
                    for cell in [0, 16, True, None]:
                        with self.subTest(size=size, other=other, cell=cell):
                            self.check_refused(BadSize, painted, made_picture(*size), made_mask(*other), cell)
                            self.check_refused(BadSize, painted, made_picture(*size), empty_mask(*other), cell)

    def test_no_cell(self):
        for what, cell in no_cells():
            with self.subTest(what=what):
                self.check_refused(BadCell, painted, made_picture(3, 2), made_mask(3, 2), cell)
                self.check_refused(BadCell, painted, made_picture(3, 2), empty_mask(3, 2), cell)


class TestChosenCells(Case):

    def test_cell_by_cell(self):
        for wide, high in SIZES:
            for mask in some_masks(wide, high):
                one = made_picture(wide, high)
                other = [[(cell * 3 + 1) % 16 for cell in row] for row in one]
                due = made_picture(wide, high)
                for x, y in places_in(mask):
                    due[y][x] = other[y][x]
                with self.subTest(mask=mask):
                    self.check_told(due, chosen_cells, one, other, mask)

    def test_written_out(self):
        one = [[1, 2, 3], [4, 5, 6]]
        other = [[7, 8, 9], [10, 11, 12]]
        self.check_told([[7, 2, 9], [4, 11, 6]], chosen_cells, one, other, (3, (5, 2)))

    def test_wholly_one_or_the_other_in_lists_of_its_own(self):
        self.check_told([[1, 2]], chosen_cells, [[1, 2]], [[3, 4]], (2, (0,)))
        self.check_told([[3, 4]], chosen_cells, [[1, 2]], [[3, 4]], (2, (3,)))
        picture = made_picture(3, 3)
        self.check_told(made_picture(3, 3), chosen_cells, picture, picture, made_mask(3, 3))
        self.check_told([[1, 2], [1, 2]], chosen_cells, row_twice(), row_twice(), (2, (1, 2)))

    def test_no_picture(self):
        for what, thing in no_pictures():
            with self.subTest(what=what):
                self.check_refused(BadPicture, chosen_cells, thing, [[1]], (1, (1,)))
                self.check_refused(BadPicture, chosen_cells, [[1]], thing, (1, (1,)))
                self.check_refused(BadPicture, chosen_cells, thing, thing, (1, (1,)))
                self.check_refused(BadPicture, chosen_cells, thing, [[1, 2]], (1, (2,)))
                self.check_refused(BadPicture, chosen_cells, [[1, 2]], thing, None)
                self.check_refused(BadPicture, chosen_cells, made_picture(24, 24), thing, (1, [1]))

    def test_no_mask(self):
        for what, thing in no_masks():
            with self.subTest(what=what):
                self.check_refused(BadMask, chosen_cells, [[1]], [[1]], thing)
                self.check_refused(BadMask, chosen_cells, [[1]], [[1, 2]], thing)
                self.check_refused(BadMask, chosen_cells, made_picture(2, 3), made_picture(3, 2), thing)

    def test_unlike_sizes(self):
        for size in SIZES:
            for other in SIZES:
                if size != other:
                    one, beside = made_picture(*size), made_picture(*other)
                    with self.subTest(size=size, other=other):
                        self.check_refused(BadSize, chosen_cells, one, beside, made_mask(*size))
                        self.check_refused(BadSize, chosen_cells, one, beside, made_mask(*other))
                        self.check_refused(BadSize, chosen_cells, one, made_picture(*size), made_mask(*other))
                        self.check_refused(BadSize, chosen_cells, one, made_picture(*size), empty_mask(*other))


if __name__ == "__main__":
    unittest.main()
