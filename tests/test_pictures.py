"""Cells and pictures (2), what is refused and kept (1)."""

import unittest

from cellfolio import pictures
from cellfolio.errors import BadCell, BadPicture, BadSize, OutOfPlace
from cellfolio.pictures import (blank_picture, cell_at, is_cell, is_picture, need_picture, size_of, unlike_cells,
                                with_cell)
from tests.things import Case, HUGE, made_picture, no_cells, no_numbers, no_pictures, no_sides

SIZES = [(1, 1), (1, 2), (2, 1), (3, 2), (2, 3), (5, 5), (1, 24), (24, 1), (24, 23), (23, 24), (24, 24)]


class TestInterface(Case):

    def test_most(self):
        self.check_same(pictures.MOST_SIDE, 24)
        self.check_same(pictures.MOST_CELL, 15)

    def test_arguments(self):
        self.check_arguments(is_cell, ["thing"])
        self.check_arguments(is_picture, ["thing"])
        self.check_arguments(need_picture, ["picture"])
        self.check_arguments(size_of, ["picture"])
        self.check_arguments(blank_picture, ["wide", "high", "cell"], {"cell": 0})
        self.check_arguments(cell_at, ["picture", "x", "y"])
        self.check_arguments(with_cell, ["picture", "x", "y", "cell"])
        self.check_arguments(unlike_cells, ["one", "other"])


class TestIsCell(Case):

    def test_cells(self):
        for cell in range(16):
            with self.subTest(cell=cell):
                self.assertIs(is_cell(cell), True)

    def test_no_cells(self):
        for what, thing in no_cells():
            with self.subTest(what=what):
                self.assertIs(is_cell(thing), False)


class TestIsPicture(Case):

    def test_sizes(self):
        for wide in range(1, 25):
            for high in range(1, 25):
                with self.subTest(wide=wide, high=high):
                    self.assertIs(is_picture(made_picture(wide, high)), True)

    def test_all_cells(self):
        self.assertIs(is_picture([list(range(16))]), True)
        self.assertIs(is_picture([[cell] for cell in range(16)]), True)

    def test_one_row_that_stands_there_twice(self):
        row = [1, 2]
        self.assertIs(is_picture([row, row]), True)

    def test_no_pictures(self):
        for what, thing in no_pictures():
            with self.subTest(what=what):
                self.assertIs(is_picture(thing), False)

    def test_no_cell_at_any_place(self):
        for wrong in [16, -1, True, False, None, "0", 1.0, [0]]:
            for y in range(4):
                for x in range(3):
                    picture = made_picture(3, 4)
                    picture[y][x] = wrong
                    with self.subTest(wrong=wrong, x=x, y=y):
                        self.assertIs(is_picture(picture), False)

    def test_a_row_of_another_length_at_any_place(self):
        for y in range(5):
            for other in [[], [0], [0, 0], [0] * 4]:
                picture = made_picture(3, 5)
                picture[y] = other
                with self.subTest(y=y, other=other):
                    self.assertIs(is_picture(picture), False)

    def test_a_tuple_at_any_place(self):
        for y in range(5):
            picture = made_picture(3, 5)
            picture[y] = tuple(picture[y])
            with self.subTest(y=y):
                self.assertIs(is_picture(picture), False)


class TestNeedPictureAndSizeOf(Case):

    def test_sizes(self):
        for wide, high in SIZES:
            with self.subTest(wide=wide, high=high):
                self.check_told(None, need_picture, made_picture(wide, high))
                self.check_told((wide, high), size_of, made_picture(wide, high))

    def test_refused(self):
        for what, thing in no_pictures():
            with self.subTest(what=what):
                self.check_refused(BadPicture, need_picture, thing)
                self.check_refused(BadPicture, size_of, thing)


class TestBlankPicture(Case):

    def test_sizes(self):
        for wide, high in SIZES:
            with self.subTest(wide=wide, high=high):
                self.check_told([[0] * wide for y in range(high)], blank_picture, wide, high)

    def test_each_cell(self):
        for cell in range(16):
            with self.subTest(cell=cell):
                self.check_told([[cell] * 3, [cell] * 3], blank_picture, 3, 2, cell)

    def test_arguments_by_name(self):
        self.assertEqual(blank_picture(high=1, cell=4, wide=2), [[4, 4]])

    def test_each_row_is_its_own(self):
        picture = blank_picture(2, 3, 1)
        picture[1][0] = 9
        self.assertEqual(picture, [[1, 1], [9, 1], [1, 1]])
        self.assertEqual(blank_picture(2, 3, 1), [[1, 1], [1, 1], [1, 1]])

    def test_no_sides(self):
        for what, side in no_sides():
            with self.subTest(what=what):
                self.check_refused(BadSize, blank_picture, side, 1)
                self.check_refused(BadSize, blank_picture, 1, side)
                self.check_refused(BadSize, blank_picture, side, side)
                self.check_refused(BadSize, blank_picture, side, 24, 1)
                self.check_refused(BadSize, blank_picture, 24, side, 1)

    def test_no_cells(self):
        for what, cell in no_cells():
            with self.subTest(what=what):
                self.check_refused(BadCell, blank_picture, 1, 1, cell)
                self.check_refused(BadCell, blank_picture, 24, 24, cell)

    def test_size_is_looked_at_ahead_of_the_cell(self):
        for cell in [16, -1, None, True, "0"]:
            for wide, high in [(0, 1), (1, 0), (25, 24), (24, 25), (True, 1), (1, True), (None, 1), (1, None)]:
                with self.subTest(wide=wide, high=high, cell=cell):
                    self.check_refused(BadSize, blank_picture, wide, high, cell)


class TestCellAt(Case):

    def test_every_place(self):
        for wide, high in SIZES:
            picture = made_picture(wide, high)
            for y in range(high):
                for x in range(wide):
                    self.check_same(cell_at(picture, x, y), (7 * x + 5 * y + x * y) % 16)
            self.assertEqual(picture, made_picture(wide, high))

    def test_row_y_and_place_x(self):
        picture = [[0, 1, 2], [3, 4, 5]]
        self.check_told(2, cell_at, picture, 2, 0)
        self.check_told(3, cell_at, [[0, 1, 2], [3, 4, 5]], 0, 1)

    def test_corners_and_just_beyond(self):
        for wide, high in SIZES:
            picture = made_picture(wide, high)
            for x in [0, wide - 1]:
                for y in [0, high - 1]:
                    self.assertEqual(cell_at(picture, x, y), picture[y][x])
            for x, y in beyond(wide, high):
                with self.subTest(wide=wide, high=high, x=x, y=y):
                    self.check_refused(OutOfPlace, cell_at, picture, x, y)

    def test_what_is_no_number(self):
        for what, thing in no_numbers() + [("huge", HUGE), ("huge below", -HUGE)]:
            with self.subTest(what=what):
                self.check_refused(OutOfPlace, cell_at, made_picture(3, 3), thing, 0)
                self.check_refused(OutOfPlace, cell_at, made_picture(3, 3), 0, thing)
                self.check_refused(OutOfPlace, cell_at, made_picture(3, 3), thing, thing)

    def test_no_picture_ahead_of_the_place(self):
        for what, thing in no_pictures():
            with self.subTest(what=what):
                self.check_refused(BadPicture, cell_at, thing, 0, 0)
                self.check_refused(BadPicture, cell_at, thing, -1, 30)
                self.check_refused(BadPicture, cell_at, thing, None, True)


class TestWithCell(Case):

    def test_every_place(self):
        for wide, high in [(1, 1), (3, 2), (2, 3), (24, 1), (1, 24)]:
            for y in range(high):
                for x in range(wide):
                    due = made_picture(wide, high)
                    due[y][x] = (due[y][x] + 1) % 16
                    with self.subTest(wide=wide, high=high, x=x, y=y):
                        self.check_told(due, with_cell, made_picture(wide, high), x, y, due[y][x])

    def test_corners_of_the_greatest(self):
        for x in [0, 23]:
            for y in [0, 23]:
                due = made_picture(24, 24)
                due[y][x] = 15 - due[y][x]
                self.check_told(due, with_cell, made_picture(24, 24), x, y, due[y][x])

    def test_each_cell(self):
        for cell in range(16):
            with self.subTest(cell=cell):
                self.check_told([[5, cell]], with_cell, [[5, 5]], 1, 0, cell)

    def test_a_cell_that_is_there_already(self):
        self.check_told([[1, 2], [3, 4]], with_cell, [[1, 2], [3, 4]], 1, 1, 4)

    def test_one_row_handed_in_twice(self):
        row = [1, 2]
        self.assertEqual(with_cell([row, row], 0, 1, 9), [[1, 2], [9, 2]])
        self.assertEqual(with_cell([row, row], 1, 0, 9), [[1, 9], [1, 2]])
        self.assertEqual(row, [1, 2])
        self.check_told([[1, 9], [1, 2]], with_cell, [row, row], 1, 0, 9)

    def test_refused_beyond(self):
        for wide, high in SIZES:
            for x, y in beyond(wide, high):
                with self.subTest(wide=wide, high=high, x=x, y=y):
                    self.check_refused(OutOfPlace, with_cell, made_picture(wide, high), x, y, 1)

    def test_what_is_no_number(self):
        for what, thing in no_numbers() + [("huge", HUGE), ("huge below", -HUGE)]:
            with self.subTest(what=what):
                self.check_refused(OutOfPlace, with_cell, made_picture(3, 3), thing, 0, 1)
                self.check_refused(OutOfPlace, with_cell, made_picture(3, 3), 0, thing, 1)

    def test_no_cells(self):
        for what, cell in no_cells():
            with self.subTest(what=what):
                self.check_refused(BadCell, with_cell, made_picture(3, 3), 0, 2, cell)

    def test_order_of_refusals(self):
        for what, thing in no_pictures():
            with self.subTest(what=what):
                self.check_refused(BadPicture, with_cell, thing, 0, 0, 0)
                self.check_refused(BadPicture, with_cell, thing, -1, 0, 0)
                self.check_refused(BadPicture, with_cell, thing, 0, None, 16)
                self.check_refused(BadPicture, with_cell, thing, 0, 0, 16)
        for cell in [16, -1, True, None, "0"]:
            for x, y in [(2, 0), (0, 2), (-1, 0), (0, -1), (True, 0), (0, True), (None, 0), (0, "0")]:
                with self.subTest(x=x, y=y, cell=cell):
                    self.check_refused(OutOfPlace, with_cell, [[0, 1], [2, 3]], x, y, cell)


class TestUnlikeCells(Case):

    def test_none(self):
        for wide, high in SIZES:
            with self.subTest(wide=wide, high=high):
                self.check_told([], unlike_cells, made_picture(wide, high), made_picture(wide, high))

    def test_the_very_same_picture(self):
        picture = made_picture(3, 3)
        self.check_told([], unlike_cells, picture, picture)

    def test_every_single_place(self):
        for y in range(3):
            for x in range(4):
                other = made_picture(4, 3)
                other[y][x] = (other[y][x] + 8) % 16
                with self.subTest(x=x, y=y):
                    self.check_told([(x, y)], unlike_cells, made_picture(4, 3), other)

    def test_several_in_order(self):
        one = [[0, 1, 2], [3, 4, 5], [6, 7, 8]]
        other = [[0, 9, 9], [9, 4, 9], [6, 7, 9]]
        due = [(1, 0), (2, 0), (0, 1), (2, 1), (2, 2)]
        self.check_told(due, unlike_cells, one, other)
        self.check_told(due, unlike_cells, [[0, 9, 9], [9, 4, 9], [6, 7, 9]], [[0, 1, 2], [3, 4, 5], [6, 7, 8]])

    def test_all(self):
        due = [(x, y) for y in range(24) for x in range(24)]
        self.check_told(due, unlike_cells, blank_picture(24, 24, 0), blank_picture(24, 24, 15))

    def test_unlike_sizes(self):
        for one in SIZES:
            for other in SIZES:
                if one != other:
                    with self.subTest(one=one, other=other):
                        self.check_refused(BadSize, unlike_cells, blank_picture(*one), blank_picture(*other))

    def test_no_picture_ahead_of_the_sizes(self):
        for what, thing in no_pictures():
            with self.subTest(what=what):
                self.check_refused(BadPicture, unlike_cells, thing, made_picture(2, 1))
                self.check_refused(BadPicture, unlike_cells, made_picture(2, 1), thing)
                self.check_refused(BadPicture, unlike_cells, made_picture(24, 24), thing)
                self.check_refused(BadPicture, unlike_cells, thing, thing)


def beyond(wide, high):
    """Places that are none: just beyond on each side, further off, and places read from behind."""
    places = [(-1, 0), (0, -1), (-1, -1), (wide, 0), (0, high), (wide, high), (wide - 1, high), (wide, high - 1)]
    places += [(-wide, 0), (0, -high), (-wide, -high), (wide + 1, 0), (0, high + 1), (100, 0), (0, 100)]
    return places


if __name__ == "__main__":
    unittest.main()
