"""Pictures cut out, framed, trimmed, thinned and widened; what is refused and kept (1)."""

import unittest

from cellfolio.cuts import cut_out, framed, thinned, trimmed, widened
from cellfolio.errors import BadCell, BadPicture, BadSize, OutOfPlace
from tests.things import Case, HUGE, made_picture, no_cells, no_numbers, no_pictures, no_steps, row_twice

SIZES = [(1, 1), (1, 2), (2, 1), (3, 2), (2, 3), (5, 5), (1, 24), (24, 1), (24, 23), (23, 24), (24, 24)]


def part_of(picture, left, top, wide, high):
    return [[picture[y][x] for x in range(left, left + wide)] for y in range(top, top + high)]


class TestInterface(Case):

    def test_arguments(self):
        self.check_arguments(cut_out, ["picture", "left", "top", "wide", "high"])
        self.check_arguments(framed, ["picture", "by", "cell"], {"cell": 0})
        self.check_arguments(trimmed, ["picture", "cell"], {"cell": 0})
        self.check_arguments(thinned, ["picture", "across", "down"])
        self.check_arguments(widened, ["picture", "across", "down"])


class TestCutOut(Case):

    def test_every_part(self):
        for wide, high in [(1, 1), (4, 3), (3, 4), (5, 1), (1, 5)]:
            picture = made_picture(wide, high)
            for left in range(-1, wide + 2):
                for top in range(-1, high + 2):
                    for across in range(-1, wide + 2):
                        for down in range(-1, high + 2):
                            good = 0 <= left and 1 <= across and left + across <= wide
                            good = good and 0 <= top and 1 <= down and top + down <= high
                            with self.subTest(left=left, top=top, wide=across, high=down):
                                if good:
                                    due = part_of(picture, left, top, across, down)
                                    self.check_same(cut_out(picture, left, top, across, down), due)
                                else:
                                    self.check_refused(OutOfPlace, cut_out, picture, left, top, across, down)

    def test_the_whole(self):
        for wide, high in SIZES:
            with self.subTest(wide=wide, high=high):
                self.check_told(made_picture(wide, high), cut_out, made_picture(wide, high), 0, 0, wide, high)

    def test_corners(self):
        for wide, high in SIZES:
            for x in [0, wide - 1]:
                for y in [0, high - 1]:
                    picture = made_picture(wide, high)
                    with self.subTest(wide=wide, high=high, x=x, y=y):
                        self.check_told([[picture[y][x]]], cut_out, picture, x, y, 1, 1)

    def test_written_out(self):
        picture = [[1, 2, 3, 4], [5, 6, 7, 8], [9, 10, 11, 12]]
        self.check_same(cut_out(picture, 1, 0, 2, 3), [[2, 3], [6, 7], [10, 11]])
        self.check_same(cut_out(picture, 0, 1, 3, 1), [[5, 6, 7]])
        self.check_same(cut_out(picture=picture, left=3, top=2, wide=1, high=1), [[12]])
        self.check_told([[7, 8], [11, 12]], cut_out, picture, 2, 1, 2, 2)

    def test_one_row_handed_in_twice(self):
        self.check_told([[1, 2], [1, 2]], cut_out, row_twice(), 0, 0, 2, 2)

    def test_each_number_one_too_far(self):
        for wide, high in SIZES:
            whole = [0, 0, wide, high]
            for place in range(4):
                for step in [1, 100]:
                    given = list(whole)
                    given[place] += step
                    with self.subTest(given=given):
                        self.check_refused(OutOfPlace, cut_out, made_picture(wide, high), *given)
            for given in [[-1, 0, 1, 1], [0, -1, 1, 1], [0, 0, 0, 1], [0, 0, 1, 0], [0, 0, -1, 1], [0, 0, 1, -1],
                          [wide, 0, 1, 1], [0, high, 1, 1], [wide, 0, 0, 1], [0, high, 1, 0], [0, 0, 0, 0],
                          [wide, high, 0, 0], [-wide, 0, wide, 1], [0, -high, 1, high], [-1, 0, wide + 1, 1],
                          [wide, 0, -1, 1], [0, high, 1, -1], [-1, -1, wide, high]]:
                with self.subTest(given=given):
                    self.check_refused(OutOfPlace, cut_out, made_picture(wide, high), *given)

    def test_what_is_no_number(self):
        for what, thing in no_numbers() + [("huge", HUGE), ("huge below", -HUGE)]:
            for place in range(4):
                given = [1, 1, 1, 1]
                given[place] = thing
                with self.subTest(what=what, place=place):
                    self.check_refused(OutOfPlace, cut_out, made_picture(3, 3), *given)
            with self.subTest(what=what):
                self.check_refused(OutOfPlace, cut_out, made_picture(3, 3), thing, thing, thing, thing)

    def test_no_picture_ahead(self):
        for what, thing in no_pictures():
            with self.subTest(what=what):
                self.check_refused(BadPicture, cut_out, thing, 0, 0, 1, 1)
                self.check_refused(BadPicture, cut_out, thing, -1, 0, 1, 1)
                self.check_refused(BadPicture, cut_out, thing, None, True, "1", 0)


class TestFramed(Case):

    def test_every_place(self):
        for wide, high in SIZES:
            for by in range(0, (24 - max(wide, high)) // 2 + 1):
                due = [[6] * (wide + 2 * by) for y in range(high + 2 * by)]
                for y, row in enumerate(made_picture(wide, high)):
                    for x, cell in enumerate(row):
                        due[y + by][x + by] = cell
                with self.subTest(wide=wide, high=high, by=by):
                    self.check_told(due, framed, made_picture(wide, high), by, 6)

    def test_written_out(self):
        self.check_told([[1, 2]], framed, [[1, 2]], 0)
        self.check_told([[1, 2]], framed, [[1, 2]], 0, 9)
        self.check_told([[0, 0, 0, 0], [0, 1, 2, 0], [0, 0, 0, 0]], framed, [[1, 2]], 1)
        self.check_told([[9, 9, 9], [9, 1, 9], [9, 2, 9], [9, 9, 9]], framed, [[1], [2]], 1, 9)
        self.check_same(framed(picture=[[1]], by=1, cell=2), [[2, 2, 2], [2, 1, 2], [2, 2, 2]])

    def test_each_cell(self):
        for cell in range(16):
            with self.subTest(cell=cell):
                self.check_told([[cell] * 3, [cell, 5, cell], [cell] * 3], framed, [[5]], 1, cell)

    def test_one_row_handed_in_twice(self):
        self.check_told([[1, 2], [1, 2]], framed, row_twice(), 0)

    def test_a_side_to_just_the_most(self):
        for wide, high, by in [(22, 1, 1), (1, 22, 1), (22, 22, 1), (2, 1, 11), (1, 2, 11), (24, 24, 0)]:
            with self.subTest(wide=wide, high=high, by=by):
                told = framed(made_picture(wide, high), by)
                self.assertEqual((len(told[0]), len(told)), (wide + 2 * by, high + 2 * by))
        for wide, high, by in [(23, 1, 1), (1, 23, 1), (23, 23, 1), (24, 1, 1), (1, 24, 1), (1, 1, 12), (3, 1, 11),
                               (1, 3, 11), (24, 24, 1), (1, 1, 100), (2, 2, HUGE)]:
            with self.subTest(wide=wide, high=high):
                self.check_refused(BadSize, framed, made_picture(wide, high), by)
                self.check_refused(BadSize, framed, made_picture(wide, high), by, 16)

    def test_no_width_of_a_frame(self):
        pairs = no_numbers() + [("-1", -1), ("-2", -2), ("huge below", -HUGE)]
        for what, by in pairs:
            for cell in [0, 16, None, True]:
                with self.subTest(what=what, cell=cell):
                    self.check_refused(BadSize, framed, made_picture(3, 3), by, cell)
                    self.check_refused(BadSize, framed, made_picture(24, 24), by, cell)

    def test_no_cell(self):
        for what, cell in no_cells():
            with self.subTest(what=what):
                self.check_refused(BadCell, framed, made_picture(3, 2), 1, cell)
                self.check_refused(BadCell, framed, made_picture(3, 2), 0, cell)
                self.check_refused(BadCell, framed, made_picture(24, 24), 0, cell)

    def test_no_picture_ahead(self):
        for what, thing in no_pictures():
            with self.subTest(what=what):
                self.check_refused(BadPicture, framed, thing, 0)
                self.check_refused(BadPicture, framed, thing, 1, 3)
                self.check_refused(BadPicture, framed, thing, -1, 3)
                self.check_refused(BadPicture, framed, thing, None, 16)


class TestTrimmed(Case):

    def test_of_a_frame(self):
        for wide, high in [(1, 1), (2, 3), (5, 4), (20, 1), (1, 20), (20, 20)]:
            for by in range(0, 3):
                inner = [[1 + (x + y) % 7 for x in range(wide)] for y in range(high)]
                for cell in [0, 9, 15]:
                    given = [[cell] * (wide + 2 * by) for y in range(high + 2 * by)]
                    for y in range(high):
                        given[y + by][by:by + wide] = inner[y]
                    with self.subTest(wide=wide, high=high, by=by, cell=cell):
                        self.check_told(inner, trimmed, given, cell)

    def test_two_cells_anywhere(self):
        for first in range(12):
            for last in range(12):
                given = [[3] * 4 for y in range(3)]
                given[first // 4][first % 4] = 5
                given[last // 4][last % 4] = 0
                left, right = sorted([first % 4, last % 4])
                top, bottom = sorted([first // 4, last // 4])
                due = part_of(given, left, top, right - left + 1, bottom - top + 1)
                with self.subTest(first=first, last=last):
                    self.check_told(due, trimmed, given, 3)

    def test_written_out(self):
        picture = [[0, 0, 0, 0], [0, 1, 0, 0], [0, 0, 2, 0]]
        self.check_same(trimmed(picture), [[1, 0], [0, 2]])
        self.check_same(trimmed(picture, 0), [[1, 0], [0, 2]])
        self.check_same(trimmed(picture=picture, cell=1), picture)
        self.check_told([[1, 0], [0, 2]], trimmed, picture)
        self.check_told([[7]], trimmed, [[0, 0], [0, 7]])
        self.check_told([[0]], trimmed, [[7, 7], [7, 0]], 7)

    def test_of_one_cell(self):
        for cell in range(16):
            with self.subTest(cell=cell):
                self.check_told([[cell]], trimmed, [[cell]])
                self.check_told([[cell]], trimmed, [[cell]], cell)
                self.check_told([[cell]], trimmed, [[cell]], 15 - cell)

    def test_of_that_cell_alone(self):
        for wide, high in SIZES:
            with self.subTest(wide=wide, high=high):
                self.check_told([[0]], trimmed, [[0] * wide for y in range(high)])
                self.check_told([[4]], trimmed, [[4] * wide for y in range(high)], 4)
                self.check_told([[4] * wide for y in range(high)], trimmed, [[4] * wide for y in range(high)])

    def test_of_one_that_has_none_of_it(self):
        for wide, high in SIZES:
            picture = [[1 + (x * y + x) % 14 for x in range(wide)] for y in range(high)]
            with self.subTest(wide=wide, high=high):
                self.check_told([list(row) for row in picture], trimmed, picture, 15)

    def test_one_row_handed_in_twice(self):
        self.check_told([[1, 2], [1, 2]], trimmed, row_twice())

    def test_rows_and_columns_within_stay(self):
        self.check_told([[1, 0, 1], [0, 0, 0], [1, 0, 1]], trimmed, [[1, 0, 1], [0, 0, 0], [1, 0, 1]])
        self.check_told([[1, 0, 0, 1]], trimmed, [[0, 1, 0, 0, 1, 0]])

    def test_no_cell(self):
        for what, cell in no_cells():
            with self.subTest(what=what):
                self.check_refused(BadCell, trimmed, made_picture(3, 2), cell)
                self.check_refused(BadCell, trimmed, [[0, 0]], cell)

    def test_no_picture_ahead(self):
        for what, thing in no_pictures():
            with self.subTest(what=what):
                self.check_refused(BadPicture, trimmed, thing)
                self.check_refused(BadPicture, trimmed, thing, 0)
                self.check_refused(BadPicture, trimmed, thing, 16)
                self.check_refused(BadPicture, trimmed, thing, None)


class TestThinned(Case):

    def test_every_step(self):
        for wide, high in SIZES:
            for across in [1, 2, 3, 5, 23, 24, 25]:
                for down in [1, 2, 4, 7, 23, 24, 100]:
                    picture = made_picture(wide, high)
                    due = [[picture[y][x] for x in range(wide) if x % across == 0] for y in range(high) if y % down == 0]
                    with self.subTest(wide=wide, high=high, across=across, down=down):
                        self.check_told(due, thinned, picture, across, down)

    def test_written_out(self):
        picture = [[1, 2, 3, 4, 5], [6, 7, 8, 9, 10], [11, 12, 13, 14, 15]]
        self.check_same(thinned(picture, 2, 1), [[1, 3, 5], [6, 8, 10], [11, 13, 15]])
        self.check_same(thinned(picture, 1, 2), [[1, 2, 3, 4, 5], [11, 12, 13, 14, 15]])
        self.check_same(thinned(picture, 3, 2), [[1, 4], [11, 14]])
        self.check_same(thinned(picture=picture, across=5, down=3), [[1]])
        self.check_told([[1, 5]], thinned, picture, 4, 3)

    def test_far_steps(self):
        for step in [25, 100, 2 ** 64, HUGE]:
            self.check_told([[0]], thinned, made_picture(24, 24), step, step)
            self.check_told([[4], [6]], thinned, [[4, 5], [6, 7]], step, 1)
            self.check_told([[4, 5]], thinned, [[4, 5], [6, 7]], 1, step)

    def test_one_row_handed_in_twice(self):
        self.check_told([[1, 2], [1, 2]], thinned, row_twice(), 1, 1)

    def test_no_steps(self):
        for what, step in no_steps():
            with self.subTest(what=what):
                self.check_refused(BadSize, thinned, made_picture(3, 2), step, 1)
                self.check_refused(BadSize, thinned, made_picture(3, 2), 1, step)
                self.check_refused(BadSize, thinned, made_picture(3, 2), step, step)

    def test_no_picture_ahead(self):
        for what, thing in no_pictures():
            with self.subTest(what=what):
                self.check_refused(BadPicture, thinned, thing, 1, 1)
                self.check_refused(BadPicture, thinned, thing, 0, 1)
                self.check_refused(BadPicture, thinned, thing, None, True)


class TestWidened(Case):

    def test_every_step(self):
        for wide, high in [(1, 1), (3, 2), (2, 3), (5, 5), (1, 24), (24, 1), (24, 24)]:
            for across in range(1, 24 // wide + 1):
                for down in range(1, 24 // high + 1):
                    picture = made_picture(wide, high)
                    due = []
                    for row in picture:
                        for time in range(down):
                            due.append([cell for cell in row for again in range(across)])
                    with self.subTest(wide=wide, high=high, across=across, down=down):
                        self.check_same(widened(picture, across, down), due)
                        self.check_same(thinned(widened(picture, across, down), across, down), picture)

    def test_written_out(self):
        self.check_told([[1, 1, 2, 2], [3, 3, 4, 4]], widened, [[1, 2], [3, 4]], 2, 1)
        self.check_told([[1, 2], [1, 2], [3, 4], [3, 4]], widened, [[1, 2], [3, 4]], 1, 2)
        self.check_told([[1, 1, 1, 2, 2, 2], [1, 1, 1, 2, 2, 2]], widened, [[1, 2]], 3, 2)
        self.check_told([[1, 2], [3, 4]], widened, [[1, 2], [3, 4]], 1, 1)
        self.check_told([[5] * 24 for y in range(24)], widened, [[5]], 24, 24)
        self.check_same(widened(picture=[[1]], across=2, down=1), [[1, 1]])

    def test_one_row_handed_in_twice(self):
        self.check_told([[1, 2], [1, 2]], widened, row_twice(), 1, 1)

    def test_a_side_to_just_the_most(self):
        for wide, high, across, down in [(12, 1, 2, 1), (1, 12, 1, 2), (8, 6, 3, 4), (24, 24, 1, 1), (1, 1, 24, 24)]:
            with self.subTest(wide=wide, high=high):
                told = widened(made_picture(wide, high), across, down)
                self.assertEqual((len(told[0]), len(told)), (wide * across, high * down))
        for wide, high, across, down in [(5, 1, 5, 1), (1, 5, 1, 5), (1, 1, 25, 1), (1, 1, 1, 25), (24, 24, 2, 1),
                                         (24, 24, 1, 2), (13, 1, 2, 1), (1, 13, 1, 2), (1, 1, HUGE, 1), (1, 1, 1, HUGE)]:
            with self.subTest(wide=wide, high=high):
                self.check_refused(BadSize, widened, made_picture(wide, high), across, down)

    def test_no_steps(self):
        for what, step in no_steps():
            with self.subTest(what=what):
                self.check_refused(BadSize, widened, made_picture(3, 2), step, 1)
                self.check_refused(BadSize, widened, made_picture(3, 2), 1, step)
                self.check_refused(BadSize, widened, made_picture(3, 2), step, step)

    def test_no_picture_ahead(self):
        for what, thing in no_pictures():
            with self.subTest(what=what):
                self.check_refused(BadPicture, widened, thing, 1, 1)
                self.check_refused(BadPicture, widened, thing, 25, 1)
                self.check_refused(BadPicture, widened, thing, None, True)


if __name__ == "__main__":
    unittest.main()
