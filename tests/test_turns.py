"""The eight ways (5), what is refused and kept (1)."""

import unittest

from cellfolio.errors import BadPicture, BadSize
from cellfolio.turns import (alike_ways, by_way, crossed, flipped, least_way, mirrored, turned, way_back, way_behind)
from tests.things import Case, HUGE, made_picture, no_numbers, no_pictures, row_twice

SIZES = [(1, 1), (1, 2), (2, 1), (3, 2), (2, 3), (5, 5), (1, 24), (24, 1), (24, 23), (23, 24), (24, 24)]
SIX = [[1, 2, 3], [4, 5, 6]]
# The eight ways of SIX, written out by hand.
WAYS = [
    [[1, 2, 3], [4, 5, 6]],
    [[4, 1], [5, 2], [6, 3]],
    [[6, 5, 4], [3, 2, 1]],
    [[3, 6], [2, 5], [1, 4]],
    [[3, 2, 1], [6, 5, 4]],
    [[6, 3], [5, 2], [4, 1]],
    [[4, 5, 6], [1, 2, 3]],
    [[1, 4], [2, 5], [3, 6]],
]


def six():
    return [list(row) for row in SIX]


def quarter(picture):
    """The columns from the left on, each read from below, are the rows."""
    return [[row[x] for row in picture[::-1]] for x in range(len(picture[0]))]


def way_of(picture, way):
    rows = [row[::-1] if way >= 4 else row[:] for row in picture]
    for time in range(way % 4):
        rows = quarter(rows)
    return rows


def text_of(picture):
    return "\n".join("".join("0123456789abcdef"[cell] for cell in row) for row in picture)


def no_ways():
    pairs = no_numbers() + [("-1", -1), ("8", 8), ("9", 9), ("-8", -8), ("12", 12), ("huge", HUGE), ("below", -HUGE)]
    return pairs


def small_pictures():
    """Pictures some of which are left as they are by some ways, of several sizes and cells."""
    pictures = []
    for wide, high in [(1, 1), (2, 1), (1, 2), (2, 2), (3, 1), (3, 2), (2, 3)]:
        for number in range(3 ** (wide * high)):
            cells = [number // 3 ** place % 3 for place in range(wide * high)]
            pictures.append([cells[start:start + wide] for start in range(0, wide * high, wide)])
    for number in range(2 ** 9):
        cells = [(number >> place & 1) * 10 for place in range(9)]
        pictures.append([cells[0:3], cells[3:6], cells[6:9]])
    return pictures


class TestInterface(Case):

    def test_arguments(self):
        self.check_arguments(turned, ["picture", "times"], {"times": 1})
        for function in [mirrored, flipped, crossed, alike_ways, least_way]:
            self.check_arguments(function, ["picture"])
        self.check_arguments(by_way, ["picture", "way"])
        self.check_arguments(way_behind, ["one", "other"])
        self.check_arguments(way_back, ["way"])


class TestTurned(Case):

    def test_left_column_from_below_is_the_top_row(self):
        self.check_told([[4, 1], [5, 2], [6, 3]], turned, six())
        self.check_told([[3, 2, 1]], turned, [[1], [2], [3]])
        self.check_told([[1], [2], [3]], turned, [[1, 2, 3]])

    def test_times(self):
        for times in range(-9, 10):
            with self.subTest(times=times):
                self.check_told(WAYS[times % 4], turned, six(), times)
                self.check_same(turned(picture=SIX, times=times), WAYS[times % 4])

    def test_written_out(self):
        self.check_told([[1, 2, 3], [4, 5, 6]], turned, six(), 0)
        self.check_told([[4, 1], [5, 2], [6, 3]], turned, six(), 1)
        self.check_told([[6, 5, 4], [3, 2, 1]], turned, six(), 2)
        self.check_told([[3, 6], [2, 5], [1, 4]], turned, six(), 3)
        self.check_told([[1, 2, 3], [4, 5, 6]], turned, six(), 4)
        self.check_told([[3, 6], [2, 5], [1, 4]], turned, six(), -1)
        self.check_told([[6, 5, 4], [3, 2, 1]], turned, six(), -2)
        self.check_told([[4, 1], [5, 2], [6, 3]], turned, six(), -3)
        self.check_told([[1, 2, 3], [4, 5, 6]], turned, six(), -4)

    def test_far_beyond(self):
        for far in [100, 2 ** 64, 10 ** 40, HUGE]:
            for step in range(4):
                for times in [far + step, -far + step]:
                    self.check_told(WAYS[times % 4], turned, six(), times)

    def test_sizes(self):
        for wide, high in SIZES:
            for times in range(4):
                with self.subTest(wide=wide, high=high, times=times):
                    due = way_of(made_picture(wide, high), times)
                    self.check_told(due, turned, made_picture(wide, high), times)

    def test_one_row_handed_in_twice(self):
        self.check_told([[1, 2], [1, 2]], turned, row_twice(), 0)
        self.check_told([[2, 1], [2, 1]], turned, row_twice(), 2)

    def test_refused(self):
        for what, thing in no_pictures():
            for times in [0, 1, 2, -1, 4, 100]:
                with self.subTest(what=what, times=times):
                    self.check_refused(BadPicture, turned, thing, times)
            with self.subTest(what=what):
                self.check_refused(BadPicture, turned, thing)


class TestMirroredFlippedCrossed(Case):

    def test_written_out(self):
        self.check_told([[3, 2, 1], [6, 5, 4]], mirrored, six())
        self.check_told([[4, 5, 6], [1, 2, 3]], flipped, six())
        self.check_told([[1, 4], [2, 5], [3, 6]], crossed, six())

    def test_sizes(self):
        for wide, high in SIZES:
            picture = made_picture(wide, high)
            left_right = [[picture[y][wide - 1 - x] for x in range(wide)] for y in range(high)]
            top_bottom = [[picture[high - 1 - y][x] for x in range(wide)] for y in range(high)]
            over = [[picture[x][y] for x in range(high)] for y in range(wide)]
            with self.subTest(wide=wide, high=high):
                self.check_told(left_right, mirrored, made_picture(wide, high))
                self.check_told(top_bottom, flipped, made_picture(wide, high))
                self.check_told(over, crossed, made_picture(wide, high))

    def test_one_row_handed_in_twice(self):
        self.check_told([[2, 1], [2, 1]], mirrored, row_twice())
        self.check_told([[1, 2], [1, 2]], flipped, row_twice())
        self.check_told([[1, 1], [2, 2]], crossed, row_twice())

    def test_refused(self):
        for what, thing in no_pictures():
            with self.subTest(what=what):
                self.check_refused(BadPicture, mirrored, thing)
                self.check_refused(BadPicture, flipped, thing)
                self.check_refused(BadPicture, crossed, thing)


class TestByWay(Case):

    def test_written_out(self):
        for way in range(8):
            with self.subTest(way=way):
                self.check_told(WAYS[way], by_way, six(), way)

    def test_sizes(self):
        for wide, high in SIZES:
            for way in range(8):
                with self.subTest(wide=wide, high=high, way=way):
                    due = way_of(made_picture(wide, high), way)
                    self.check_told(due, by_way, made_picture(wide, high), way)

    def test_one_row_handed_in_twice(self):
        for way, due in [(0, [[1, 2], [1, 2]]), (4, [[2, 1], [2, 1]]), (6, [[1, 2], [1, 2]]), (7, [[1, 1], [2, 2]])]:
            self.check_told(due, by_way, row_twice(), way)

    def test_no_way(self):
        for what, way in no_ways():
            with self.subTest(what=what):
                self.check_refused(BadSize, by_way, six(), way)
                self.check_refused(BadSize, by_way, [[0]], way)

    def test_no_picture_ahead(self):
        for what, thing in no_pictures():
            for way in [0, 1, 4, 7, 8, -1, True, None]:
                with self.subTest(what=what, way=way):
                    self.check_refused(BadPicture, by_way, thing, way)


class TestAlikeAndLeast(Case):

    def test_alike_written_out(self):
        self.check_told([0, 1, 2, 3, 4, 5, 6, 7], alike_ways, [[5]])
        self.check_told([0, 1, 2, 3, 4, 5, 6, 7], alike_ways, [[1, 2, 1], [2, 3, 2], [1, 2, 1]])
        self.check_told([0], alike_ways, six())
        self.check_told([0, 4], alike_ways, [[1, 2, 1], [3, 4, 3]])
        self.check_told([0, 6], alike_ways, [[1, 2], [3, 4], [1, 2]])
        self.check_told([0, 2], alike_ways, [[1, 2, 3], [3, 2, 1]])
        self.check_told([0, 2, 4, 6], alike_ways, [[1, 2, 1]])
        self.check_told([0, 7], alike_ways, [[1, 2], [2, 3]])
        self.check_told([0, 5], alike_ways, [[2, 1], [3, 2]])
        self.check_told([0, 2, 5, 7], alike_ways, [[1, 2], [2, 1]])
        self.check_told([0, 1, 2, 3], alike_ways, [[0, 1, 0, 0], [0, 1, 1, 1], [1, 1, 1, 0], [0, 0, 1, 0]])

    def test_alike_of_many(self):
        for picture in small_pictures():
            due = [way for way in range(8) if way_of(picture, way) == picture]
            self.check_same(alike_ways(picture), due)

    def test_alike_sizes(self):
        for wide, high in SIZES:
            with self.subTest(wide=wide, high=high):
                plain = [[9] * wide for y in range(high)]
                due = list(range(8)) if wide == high else [0, 2, 4, 6]
                self.check_told(due, alike_ways, plain)

    def test_least_written_out(self):
        self.check_told(0, least_way, [[5]])
        self.check_told(0, least_way, six())
        self.check_told(7, least_way, [[1, 4], [2, 5], [3, 6]])
        self.check_told(0, least_way, [[1, 2], [3, 4]])
        self.check_told(4, least_way, [[2, 1], [3, 4]])
        self.check_told(0, least_way, [[7, 7], [7, 7]])
        self.check_told(2, least_way, [[9, 9], [9, 1]])

    def test_least_by_the_text_in_which_a_line_end_is_less_than_any_sign(self):
        self.check_told(1, least_way, [[0, 0]])
        self.check_told(0, least_way, [[0], [0]])
        self.check_told(3, least_way, [[15, 10]])
        self.check_told(1, least_way, [[9, 10]])

    def test_least_of_many(self):
        for picture in small_pictures():
            texts = [text_of(way_of(picture, way)) for way in range(8)]
            self.check_same(least_way(picture), texts.index(sorted(texts)[0]))

    def test_least_sizes(self):
        for wide, high in SIZES:
            texts = [text_of(way_of(made_picture(wide, high), way)) for way in range(8)]
            with self.subTest(wide=wide, high=high):
                self.check_told(texts.index(sorted(texts)[0]), least_way, made_picture(wide, high))

    def test_refused(self):
        for what, thing in no_pictures():
            with self.subTest(what=what):
                self.check_refused(BadPicture, alike_ways, thing)
                self.check_refused(BadPicture, least_way, thing)

    def test_the_list_may_be_changed(self):
        ways = alike_ways([[1, 2, 1]])
        ways.append(9)
        self.check_same(alike_ways([[1, 2, 1]]), [0, 2, 4, 6])


class TestWaysAmongThemselves(Case):

    def test_behind_all_pairs(self):
        for one in range(8):
            for other in range(8):
                with self.subTest(one=one, other=other):
                    behind = way_behind(one, other)
                    self.assertIs(type(behind), int)
                    due = WAYS.index(way_of(way_of(SIX, one), other))
                    self.check_same(behind, due)
                    self.assertEqual(by_way(SIX, behind), by_way(by_way(SIX, one), other))
                    self.assertEqual(by_way(made_picture(4, 4), behind), by_way(by_way(made_picture(4, 4), one), other))

    def test_behind_written_out(self):
        self.check_told(0, way_behind, 0, 0)
        self.check_told(2, way_behind, 1, 1)
        self.check_told(0, way_behind, 3, 1)
        self.check_told(7, way_behind, 1, 4)
        self.check_told(5, way_behind, 4, 1)
        self.check_told(0, way_behind, 6, 6)
        self.check_told(3, way_behind, 7, 6)

    def test_back_all(self):
        for way in range(8):
            with self.subTest(way=way):
                self.check_same(way_back(way), [0, 3, 2, 1, 4, 5, 6, 7][way])
                self.assertEqual(by_way(by_way(SIX, way), way_back(way)), SIX)
                self.check_same(way_behind(way, way_back(way)), 0)
                self.check_same(way_behind(way_back(way), way), 0)

    def test_no_ways(self):
        for what, way in no_ways():
            with self.subTest(what=what):
                self.check_refused(BadSize, way_back, way)
                self.check_refused(BadSize, way_behind, way, way)
                for good in [0, 3, 4, 7]:
                    self.check_refused(BadSize, way_behind, way, good)
                    self.check_refused(BadSize, way_behind, good, way)


if __name__ == "__main__":
    unittest.main()
