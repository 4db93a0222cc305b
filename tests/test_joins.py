"""Pictures joined, laid over one another, and parted into tiles; what is refused and kept (1)."""

import unittest

from cellfolio.errors import BadCell, BadPicture, BadSize
from cellfolio.joins import from_tiles, laid_over, set_above, set_beside, tiled, tiles_of
from tests.things import Case, HUGE, made_picture, no_cells, no_pictures, no_steps, odd_texts, odd_things, row_twice

SIZES = [(1, 1), (1, 2), (2, 1), (3, 2), (2, 3), (5, 5), (1, 24), (24, 1), (24, 23), (23, 24), (24, 24)]


def other_picture(wide, high):
    return [[(3 * x + 11 * y + 9) % 16 for x in range(wide)] for y in range(high)]


class TestInterface(Case):

    def test_arguments(self):
        self.check_arguments(set_beside, ["one", "other"])
        self.check_arguments(set_above, ["one", "other"])
        self.check_arguments(laid_over, ["one", "other", "left", "top", "clear"], {"clear": None})
        self.check_arguments(tiled, ["picture", "across", "down"])
        self.check_arguments(tiles_of, ["picture", "wide", "high"])
        self.check_arguments(from_tiles, ["tiles"])


class TestSetBesideAndAbove(Case):

    def test_written_out(self):
        self.check_told([[1, 2, 5], [3, 4, 6]], set_beside, [[1, 2], [3, 4]], [[5], [6]])
        self.check_told([[5, 1, 2], [6, 3, 4]], set_beside, [[5], [6]], [[1, 2], [3, 4]])
        self.check_told([[1, 2], [3, 4], [5, 6]], set_above, [[1, 2], [3, 4]], [[5, 6]])
        self.check_told([[5, 6], [1, 2], [3, 4]], set_above, [[5, 6]], [[1, 2], [3, 4]])

    def test_all_lengths(self):
        for across in range(1, 25):
            for beside in range(1, 25):
                one, other = made_picture(across, 2), other_picture(beside, 2)
                above, beneath = made_picture(2, across), other_picture(2, beside)
                with self.subTest(across=across, beside=beside):
                    if across + beside <= 24:
                        self.check_same(set_beside(one, other), [one[y] + other[y] for y in range(2)])
                        self.check_same(set_above(above, beneath), above + beneath)
                    else:
                        self.check_refused(BadSize, set_beside, one, other)
                        self.check_refused(BadSize, set_above, above, beneath)

    def test_to_just_the_most(self):
        one, other = made_picture(23, 24), other_picture(1, 24)
        self.check_told([one[y] + other[y] for y in range(24)], set_beside, one, other)
        one, other = made_picture(24, 12), other_picture(24, 12)
        due = made_picture(24, 12) + other_picture(24, 12)
        self.check_told(due, set_above, one, other)
        self.check_refused(BadSize, set_beside, made_picture(24, 24), made_picture(1, 24))
        self.check_refused(BadSize, set_beside, made_picture(24, 24), made_picture(24, 24))
        self.check_refused(BadSize, set_above, made_picture(24, 24), made_picture(24, 1))
        self.check_refused(BadSize, set_above, made_picture(24, 24), made_picture(24, 24))

    def test_unlike_heights_and_widths(self):
        for one in range(1, 25):
            for other in range(1, 25):
                if one != other:
                    with self.subTest(one=one, other=other):
                        self.check_refused(BadSize, set_beside, made_picture(2, one), made_picture(2, other))
                        self.check_refused(BadSize, set_above, made_picture(one, 2), made_picture(other, 2))

    def test_unlike_in_the_other_way_is_good(self):
        self.check_told([[1, 2, 3, 4]], set_beside, [[1]], [[2, 3, 4]])
        self.check_told([[1], [2], [3]], set_above, [[1]], [[2], [3]])

    def test_the_very_same_picture(self):
        picture = [[1, 2], [3, 4]]
        self.assertEqual(set_beside(picture, picture), [[1, 2, 1, 2], [3, 4, 3, 4]])
        self.check_told([[1, 2], [3, 4], [1, 2], [3, 4]], set_above, picture, picture)
        self.check_told([[1, 2], [1, 2], [1, 2]], set_above, row_twice(), [[1, 2]])

    def test_no_picture_ahead_of_the_sizes(self):
        for what, thing in no_pictures():
            for function in [set_beside, set_above]:
                with self.subTest(what=what, function=function.__name__):
                    self.check_refused(BadPicture, function, thing, [[1]])
                    self.check_refused(BadPicture, function, [[1]], thing)
                    self.check_refused(BadPicture, function, thing, thing)
                    self.check_refused(BadPicture, function, made_picture(24, 24), thing)
                    self.check_refused(BadPicture, function, thing, made_picture(24, 24))


class TestLaidOver(Case):

    def laid(self, one, other, left, top, clear):
        due = [list(row) for row in one]
        for y, row in enumerate(other):
            for x, cell in enumerate(row):
                seen = clear is None or cell != clear
                if seen and 0 <= y + top < len(one) and 0 <= x + left < len(one[0]):
                    due[y + top][x + left] = cell
        return due

    def test_everywhere(self):
        for one_size, other_size in [((1, 1), (1, 1)), ((4, 3), (2, 2)), ((2, 2), (4, 3)), ((3, 4), (3, 4)),
                                     ((5, 1), (1, 5))]:
            one, other = made_picture(*one_size), other_picture(*other_size)
            for left in range(-other_size[0] - 1, one_size[0] + 2):
                for top in range(-other_size[1] - 1, one_size[1] + 2):
                    for clear in [None, 9, 0, 12, 4]:
                        with self.subTest(one=one_size, other=other_size, left=left, top=top, clear=clear):
                            due = self.laid(one, other, left, top, clear)
                            self.check_same(laid_over(one, other, left, top, clear), due)

    def test_written_out(self):
        one = [[1, 1, 1], [1, 1, 1]]
        self.check_same(laid_over(one, [[5, 6]], 0, 0), [[5, 6, 1], [1, 1, 1]])
        self.check_same(laid_over(one, [[5, 6]], 1, 1), [[1, 1, 1], [1, 5, 6]])
        self.check_same(laid_over(one, [[5, 6]], 2, 0), [[1, 1, 5], [1, 1, 1]])
        self.check_same(laid_over(one, [[5, 6]], -1, 0), [[6, 1, 1], [1, 1, 1]])
        self.check_same(laid_over(one, [[5], [6]], 0, -1), [[6, 1, 1], [1, 1, 1]])
        self.check_same(laid_over(one, [[5], [6]], 0, 1), [[1, 1, 1], [5, 1, 1]])
        self.check_same(laid_over(one, [[5, 6]], 0, 0, 5), [[1, 6, 1], [1, 1, 1]])
        self.check_same(laid_over(one=one, other=[[5, 6]], left=0, top=0, clear=6), [[5, 1, 1], [1, 1, 1]])
        self.check_told([[5, 6, 1], [1, 1, 1]], laid_over, one, [[5, 6]], 0, 0, 7)

    def test_nought_is_seen_where_nothing_is_clear(self):
        self.check_told([[0, 0]], laid_over, [[3, 3]], [[0, 0]], 0, 0)
        self.check_told([[0, 0]], laid_over, [[3, 3]], [[0, 0]], 0, 0, None)
        self.check_told([[3, 3]], laid_over, [[3, 3]], [[0, 0]], 0, 0, 0)
        self.check_told([[3, 1]], laid_over, [[3, 3]], [[0, 1]], 0, 0, 0)
        self.check_told([[0, 3]], laid_over, [[3, 3]], [[0, 1]], 0, 0, 1)

    def test_each_clear_cell(self):
        for clear in range(16):
            due = [[7 if cell == clear else cell for cell in range(16)]]
            with self.subTest(clear=clear):
                self.check_told(due, laid_over, [[7] * 16], [list(range(16))], 0, 0, clear)

    def test_sizes(self):
        for one in SIZES:
            for other in SIZES:
                with self.subTest(one=one, other=other):
                    due = self.laid(made_picture(*one), other_picture(*other), 1, -1, 3)
                    self.check_told(due, laid_over, made_picture(*one), other_picture(*other), 1, -1, 3)

    def test_far_away(self):
        for far in [24, 25, 100, 2 ** 64, HUGE]:
            for left, top in [(far, 0), (-far, 0), (0, far), (0, -far), (far, far), (-far, -far), (far, -far)]:
                self.check_told(made_picture(3, 2), laid_over, made_picture(3, 2), other_picture(24, 24), left, top)
                self.check_told(made_picture(3, 2), laid_over, made_picture(3, 2), other_picture(24, 24), left, top, 0)

    def test_the_very_same_picture(self):
        picture = made_picture(3, 3)
        self.check_told(made_picture(3, 3), laid_over, picture, picture, 0, 0)
        self.check_told([[1, 2], [1, 2]], laid_over, row_twice(), [[1, 2]], 0, 1)

    def test_what_is_neither(self):
        for what, clear in no_cells():
            if clear is not None:
                with self.subTest(what=what):
                    self.check_refused(BadCell, laid_over, made_picture(3, 2), [[1]], 0, 0, clear)
                    self.check_refused(BadCell, laid_over, made_picture(3, 2), [[1]], 100, -100, clear)

    def test_no_picture_ahead(self):
        for what, thing in no_pictures():
            for clear in [None, 0, 16, True, "-"]:
                with self.subTest(what=what, clear=clear):
                    self.check_refused(BadPicture, laid_over, thing, [[1]], 0, 0, clear)
                    self.check_refused(BadPicture, laid_over, [[1]], thing, 0, 0, clear)
                    self.check_refused(BadPicture, laid_over, [[1]], thing, 100, 100, clear)
                    self.check_refused(BadPicture, laid_over, thing, thing, 0, 0, clear)
            with self.subTest(what=what):
                self.check_refused(BadPicture, laid_over, thing, [[1]], 0, 0)
                self.check_refused(BadPicture, laid_over, [[1]], thing, 30, 0)


class TestTiled(Case):

    def test_every_number(self):
        for wide, high in [(1, 1), (3, 2), (2, 3), (5, 5), (1, 24), (24, 1), (24, 24)]:
            for across in range(1, 27):
                for down in range(1, 27):
                    picture = made_picture(wide, high)
                    with self.subTest(wide=wide, high=high, across=across, down=down):
                        if wide * across <= 24 and high * down <= 24:
                            due = [row * across for time in range(down) for row in picture]
                            self.check_same(tiled(picture, across, down), due)
                        else:
                            self.check_refused(BadSize, tiled, picture, across, down)

    def test_written_out(self):
        self.check_told([[1, 2], [3, 4]], tiled, [[1, 2], [3, 4]], 1, 1)
        self.check_told([[1, 2, 1, 2], [3, 4, 3, 4]], tiled, [[1, 2], [3, 4]], 2, 1)
        self.check_told([[1, 2], [3, 4], [1, 2], [3, 4]], tiled, [[1, 2], [3, 4]], 1, 2)
        self.check_told([[1, 2, 1, 2, 1, 2] for y in range(2)], tiled, [[1, 2]], 3, 2)
        self.check_told([[5] * 24 for y in range(24)], tiled, [[5]], 24, 24)
        self.check_told(made_picture(24, 24), tiled, made_picture(24, 24), 1, 1)
        self.check_told([[1, 2], [1, 2]], tiled, row_twice(), 1, 1)

    def test_beyond_the_most(self):
        for wide, high, across, down in [(1, 1, 25, 1), (1, 1, 1, 25), (5, 5, 5, 1), (5, 5, 1, 5), (24, 24, 2, 1),
                                         (24, 24, 1, 2), (1, 1, HUGE, 1), (1, 1, 1, HUGE)]:
            with self.subTest(wide=wide, high=high):
                self.check_refused(BadSize, tiled, made_picture(wide, high), across, down)

    def test_no_numbers(self):
        for what, step in no_steps():
            with self.subTest(what=what):
                self.check_refused(BadSize, tiled, made_picture(3, 2), step, 1)
                self.check_refused(BadSize, tiled, made_picture(3, 2), 1, step)
                self.check_refused(BadSize, tiled, made_picture(3, 2), step, step)

    def test_no_picture_ahead(self):
        for what, thing in no_pictures():
            with self.subTest(what=what):
                self.check_refused(BadPicture, tiled, thing, 1, 1)
                self.check_refused(BadPicture, tiled, thing, 25, 0)
                self.check_refused(BadPicture, tiled, thing, None, True)


class TestTilesOf(Case):

    def test_every_size(self):
        for wide, high in [(1, 1), (4, 6), (6, 4), (5, 1), (1, 5), (24, 24), (24, 23)]:
            for across in range(1, 27):
                for down in range(1, 27):
                    picture = made_picture(wide, high)
                    with self.subTest(wide=wide, high=high, across=across, down=down):
                        if wide % across == 0 and high % down == 0:
                            due = [[[row[left:left + across] for row in picture[top:top + down]]
                                    for left in range(0, wide, across)] for top in range(0, high, down)]
                            told = tiles_of(picture, across, down)
                            self.check_same(told, due)
                            self.check_same(from_tiles(told), picture)
                        else:
                            self.check_refused(BadSize, tiles_of, picture, across, down)

    def test_written_out(self):
        picture = [[1, 2, 3, 4], [5, 6, 7, 8]]
        self.check_same(tiles_of(picture, 2, 1), [[[[1, 2]], [[3, 4]]], [[[5, 6]], [[7, 8]]]])
        self.check_same(tiles_of(picture, 1, 2), [[[[1], [5]], [[2], [6]], [[3], [7]], [[4], [8]]]])
        self.check_same(tiles_of(picture=picture, wide=4, high=2), [[[[1, 2, 3, 4], [5, 6, 7, 8]]]])
        self.check_told([[[[1, 2], [5, 6]], [[3, 4], [7, 8]]]], tiles_of, picture, 2, 2)

    def test_the_whole_and_single_cells(self):
        for wide, high in SIZES:
            with self.subTest(wide=wide, high=high):
                self.check_told([[made_picture(wide, high)]], tiles_of, made_picture(wide, high), wide, high)
                due = [[[[cell]] for cell in row] for row in made_picture(wide, high)]
                self.check_told(due, tiles_of, made_picture(wide, high), 1, 1)
        self.check_told([[[[1, 2], [1, 2]]]], tiles_of, row_twice(), 2, 2)
        self.check_told([[[[1, 2]]], [[[1, 2]]]], tiles_of, row_twice(), 2, 1)

    def test_sizes_that_do_not_go_in(self):
        for wide in [3, 5, 6, 8, 24, HUGE]:
            for high in [1, 2, 3, 6, 4]:
                with self.subTest(high=high):
                    self.check_refused(BadSize, tiles_of, made_picture(4, 6), wide, high)
        for high in [4, 5, 7, 12, 24, HUGE]:
            for wide in [1, 2, 4, 3]:
                with self.subTest(wide=wide):
                    self.check_refused(BadSize, tiles_of, made_picture(4, 6), wide, high)

    def test_no_numbers(self):
        for what, step in no_steps():
            with self.subTest(what=what):
                self.check_refused(BadSize, tiles_of, made_picture(4, 6), step, 1)
                self.check_refused(BadSize, tiles_of, made_picture(4, 6), 1, step)
                self.check_refused(BadSize, tiles_of, made_picture(4, 6), step, step)

    def test_no_picture_ahead(self):
        for what, thing in no_pictures():
            with self.subTest(what=what):
                self.check_refused(BadPicture, tiles_of, thing, 1, 1)
                self.check_refused(BadPicture, tiles_of, thing, 0, 7)
                self.check_refused(BadPicture, tiles_of, thing, None, True)


class TestFromTiles(Case):

    def test_written_out(self):
        self.check_told([[1]], from_tiles, [[[[1]]]])
        self.check_told([[1, 2], [3, 4]], from_tiles, [[[[1]], [[2]]], [[[3]], [[4]]]])
        self.check_told([[1, 2, 5, 6], [3, 4, 7, 8]], from_tiles, [[[[1, 2], [3, 4]], [[5, 6], [7, 8]]]])
        self.check_told([[1, 2], [3, 4], [5, 6], [7, 8]], from_tiles, [[[[1, 2], [3, 4]]], [[[5, 6], [7, 8]]]])
        self.check_told([[1, 2, 3, 4, 5, 6]], from_tiles, [[[[1, 2]], [[3, 4]], [[5, 6]]]])

    def test_one_tile_that_stands_there_several_times(self):
        tile = [[1, 2], [3, 4]]
        self.check_told([[1, 2, 1, 2], [3, 4, 3, 4]], from_tiles, [[tile, tile]])
        tile = [[1, 2], [3, 4]]
        self.check_told([[1, 2], [3, 4], [1, 2], [3, 4]], from_tiles, [[tile], [tile]])
        line = [[[1, 2], [3, 4]]]
        self.check_told([[1, 2], [3, 4], [1, 2], [3, 4]], from_tiles, [line, line])

    def test_the_one_tile_comes_in_lists_of_its_own(self):
        for wide, high in SIZES:
            with self.subTest(wide=wide, high=high):
                self.check_told(made_picture(wide, high), from_tiles, [[made_picture(wide, high)]])

    def test_no_list_of_lists(self):
        pairs = odd_things() + odd_texts() + [("no lists", []), ("a number", 1), ("an empty list", [[]])]
        pairs += [("a list of cells", [1, 2]), ("a picture", [[1]]), ("a list of a picture", [[[1]]])]
        pairs += [("a tuple of lists", ([[[1]]],)), ("a list of a tuple", [([[1]],)]), ("a picture of tuples", [[([1],)]])]
        pairs += [("an empty list behind", [[[[1]]], []]), ("an empty list ahead", [[], [[[1]]]])]
        pairs += [("a text in it", ["1"]), ("a dict in it", [{0: [[1]]}]), ("a tuple behind", [[[[1]]], ([[1]],)])]
        pairs += [("one too deep", [[[[[1]]]]]), ("None behind", [[[[1]]], None]), ("two empty ones", [[], []])]
        for what, thing in pairs:
            with self.subTest(what=what):
                self.check_refused(BadPicture, from_tiles, thing)

    def test_what_is_no_picture_at_any_place(self):
        for what, thing in no_pictures():
            for y in range(2):
                for x in range(3):
                    tiles = [[[[1, 2]] for place in range(3)] for line in range(2)]
                    tiles[y][x] = thing
                    with self.subTest(what=what, x=x, y=y):
                        self.check_refused(BadPicture, from_tiles, tiles)

    def test_no_picture_ahead_of_the_sizes(self):
        for what, thing in no_pictures() + [("a cell", 3)]:
            wrong = [[[[[1]], [[1, 2]], thing]], [[thing, [[1]], [[1], [2]]]], [[[[1]], [[1]]], [[[1]], thing, [[1]]]],
                     [[made_picture(24, 24), made_picture(24, 24), thing]], [[[[1]]], [[[1, 2]]], [thing]],
                     [[[[1]]], [[[1]], [[1]], [[1]]], [[[1]], thing]], [[[[1]] for x in range(30)] + [thing]]]
            for tiles in wrong:
                with self.subTest(what=what):
                    self.check_refused(BadPicture, from_tiles, tiles)
        for bad in [[], None, ()]:
            self.check_refused(BadPicture, from_tiles, [[[[1]], [[1, 2]]], bad])
            self.check_refused(BadPicture, from_tiles, [[made_picture(24, 24)] * 2, bad])

    def test_unlike_sizes(self):
        for other in [[[1]], [[1, 2, 3]], [[1, 2], [3, 4]], [[1], [2]], made_picture(24, 1), made_picture(2, 24)]:
            for y in range(2):
                for x in range(2):
                    tiles = [[[[1, 2]] for place in range(2)] for line in range(2)]
                    tiles[y][x] = other
                    with self.subTest(other=other, x=x, y=y):
                        self.check_refused(BadSize, from_tiles, tiles)

    def test_unlike_sizes_that_would_fit(self):
        self.check_refused(BadSize, from_tiles, [[[[1, 2]], [[1]]], [[[1, 2]], [[1]]]])
        self.check_refused(BadSize, from_tiles, [[[[1, 2]]], [[[1, 2], [3, 4]]]])
        self.check_refused(BadSize, from_tiles, [[[[1]], [[1]]], [[[1, 2]]]])
        self.check_refused(BadSize, from_tiles, [[[[1, 2]], [[1]]]])

    def test_unlike_many_in_two_rows(self):
        for first, second, third in [(1, 2, 1), (2, 1, 2), (1, 1, 2), (2, 2, 1), (1, 2, 2), (3, 2, 3), (24, 24, 23)]:
            tiles = [[[[1]] for x in range(many)] for many in (first, second, third)]
            with self.subTest(first=first, second=second, third=third):
                self.check_refused(BadSize, from_tiles, tiles)

    def test_to_just_the_most(self):
        for wide, high, across, down in [(1, 1, 24, 24), (12, 1, 2, 1), (1, 12, 1, 2), (8, 6, 3, 4), (24, 24, 1, 1)]:
            tiles = [[made_picture(wide, high) for x in range(across)] for y in range(down)]
            due = [row * across for time in range(down) for row in made_picture(wide, high)]
            with self.subTest(wide=wide, high=high):
                self.check_told(due, from_tiles, tiles)
        for wide, high, across, down in [(1, 1, 25, 1), (1, 1, 1, 25), (5, 1, 5, 1), (1, 5, 1, 5), (24, 24, 2, 1),
                                         (24, 24, 1, 2), (13, 1, 2, 1), (1, 13, 1, 2), (1, 1, 25, 25), (1, 1, 600, 1)]:
            tiles = [[made_picture(wide, high) for x in range(across)] for y in range(down)]
            with self.subTest(wide=wide, high=high):
                self.check_refused(BadSize, from_tiles, tiles)


if __name__ == "__main__":
    unittest.main()
