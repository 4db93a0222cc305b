"""How often cells are used, pictures in order and with fewer colours (6); what is refused and kept (1)."""

import itertools
import unittest

from cellfolio.errors import BadPicture, BadSize, NoColour
from cellfolio.fewer import cell_counts, fewer_cells, ordered_picture
from cellfolio.palettes import Palette, shown_picture
from tests.things import Case, HUGE, made_colours, made_picture, no_numbers, no_pictures, row_twice

SIZES = [(1, 1), (1, 2), (2, 1), (3, 2), (2, 3), (5, 5), (1, 24), (24, 1), (24, 23), (23, 24), (24, 24)]
# Greys, so that how far two are apart is easily seen.
GREYS = [(place, place, place) for place in (0, 10, 30, 31, 60, 62, 200, 255)]


def grey_palette():
    return Palette(list(GREYS))


def no_manys():
    pairs = no_numbers() + [("0", 0), ("-1", -1), ("17", 17), ("18", 18), ("huge", HUGE), ("huge below", -HUGE)]
    return pairs


def counted(picture):
    """What is used of the picture, as pairs (cell, how often)."""
    cells = sorted(sum(picture, []))
    return [(cell, len(list(many))) for cell, many in itertools.groupby(cells)]


def walked_to_fewer(picture, colours, many):
    """The same as fewer_cells, step by step, in the words of the document."""
    cells = [list(row) for row in picture]
    while len(counted(cells)) > many:
        least = min(often for cell, often in counted(cells))
        gone = [cell for cell, often in counted(cells) if often == least][-1]
        far = [(sum((a - b) ** 2 for a, b in zip(colours[gone], colours[cell])), cell)
               for cell, often in counted(cells) if cell != gone]
        cells = [[sorted(far)[0][1] if cell == gone else cell for cell in row] for row in cells]
    return cells


class TestInterface(Case):

    def test_arguments(self):
        self.check_arguments(cell_counts, ["picture"])
        self.check_arguments(ordered_picture, ["picture", "palette"])
        self.check_arguments(fewer_cells, ["picture", "palette", "many"])


class TestCellCounts(Case):

    def test_written_out(self):
        self.check_told([1, 2, 0, 3] + [0] * 12, cell_counts, [[3, 1, 3], [1, 0, 3]])
        self.check_told([2, 1, 0, 0, 0, 0, 0, 0, 0, 0, 0, 0, 0, 0, 0, 1], cell_counts, [[0], [15], [0], [1]])

    def test_one_cell_alone(self):
        for cell in range(16):
            for wide, high in SIZES:
                due = [0] * 16
                due[cell] = wide * high
                self.check_told(due, cell_counts, [[cell] * wide for y in range(high)])

    def test_all_cells(self):
        self.check_told([1] * 16, cell_counts, [list(range(16))])
        self.check_told([1] * 16, cell_counts, [[cell] for cell in range(15, -1, -1)])
        for wide, high in SIZES:
            picture = made_picture(wide, high)
            due = [sum(row.count(cell) for row in picture) for cell in range(16)]
            self.assertEqual(sum(due), wide * high)
            self.check_told(due, cell_counts, picture)

    def test_a_row_that_stands_twice(self):
        self.check_told([0, 2, 2] + [0] * 13, cell_counts, row_twice())

    def test_no_picture(self):
        for what, thing in no_pictures():
            with self.subTest(what=what):
                self.check_refused(BadPicture, cell_counts, thing)


class FewerCase(Case):

    def check_stays(self, palette, colours):
        self.assertEqual(palette.colours(), colours)


class TestOrderedPicture(FewerCase):

    def check_ordered(self, due, picture, colours):
        palette = Palette(list(colours))

        def ordered(rows):
            told = ordered_picture(rows, palette)
            self.assertIs(type(told), tuple)
            self.assertIs(type(told[0]), Palette)
            self.assertEqual(shown_picture(told[1], told[0]), shown_picture(rows, palette))
            return (told[0].colours(),) + told[1:]

        self.check_told(due, ordered, picture)
        self.check_stays(palette, list(colours))

    def test_those_used_most_ahead(self):
        due = ([GREYS[2], GREYS[0], GREYS[1]], [[0, 0, 0], [1, 1, 2]])
        self.check_ordered(due, [[2, 2, 2], [0, 0, 1]], GREYS[:3])
        due = ([GREYS[1], GREYS[2], GREYS[0]], [[2, 1, 1], [0, 0, 0]])
        self.check_ordered(due, [[0, 2, 2], [1, 1, 1]], GREYS[:3])

    def test_those_not_used_left_out(self):
        self.check_ordered(([GREYS[5]], [[0, 0]]), [[5, 5]], GREYS)
        self.check_ordered(([GREYS[5], GREYS[2]], [[1, 0, 0]]), [[2, 5, 5]], GREYS)
        self.check_ordered(([GREYS[0]], [[0]]), [[0]], GREYS[:1])

    def test_of_like_many_the_lesser_cell_ahead(self):
        self.check_ordered(([GREYS[1], GREYS[4], GREYS[6]], [[2, 1, 0]]), [[6, 4, 1]], GREYS)
        self.check_ordered(([GREYS[3], GREYS[7], GREYS[0]], [[2, 1, 0, 0, 1]]), [[0, 7, 3, 3, 7]], GREYS)
        # Their colours' numbers fall, so that it is the cells that count.
        self.check_ordered((GREYS[::-1], [list(range(8))]), [list(range(8))], GREYS[::-1])

    def test_all_sixteen(self):
        colours = made_colours(16)
        self.check_ordered((colours, [list(range(16))]), [list(range(16))], colours)
        self.check_ordered((colours, [list(range(15, -1, -1))]), [list(range(15, -1, -1))], colours)

    def test_sizes(self):
        colours = made_colours(16)
        for wide, high in SIZES:
            picture = made_picture(wide, high)
            order = [cell for often, cell in sorted((-often, cell) for cell, often in counted(picture))]
            due = ([colours[cell] for cell in order], [[order.index(cell) for cell in row] for row in picture])
            with self.subTest(wide=wide, high=high):
                self.check_ordered(due, picture, colours)

    def test_each_palette_is_its_own(self):
        palette = Palette(GREYS[:2])
        one, picture = ordered_picture([[0, 1]], palette)
        one.add_colour((1, 2, 3))
        self.check_stays(palette, GREYS[:2])
        palette.add_colour((4, 5, 6))
        self.check_stays(one, GREYS[:2] + [(1, 2, 3)])
        self.check_stays(ordered_picture([[0, 1]], palette)[0], GREYS[:2])

    def test_a_row_that_stands_twice(self):
        self.check_ordered((GREYS[1:3], [[0, 1], [0, 1]]), row_twice(), GREYS)

    def test_a_cell_that_the_palette_has_not(self):
        for many in range(1, 16):
            palette = Palette(made_colours(many))
            for cell in range(many, 16):
                for picture in [[[cell]], [[0, 0], [0, cell]], [[cell, 0], [0, 0]]]:
                    with self.subTest(many=many, cell=cell):
                        self.check_refused(NoColour, ordered_picture, picture, palette)
            self.check_stays(palette, made_colours(many))

    def test_no_picture(self):
        for what, thing in no_pictures():
            with self.subTest(what=what):
                self.check_refused(BadPicture, ordered_picture, thing, Palette(GREYS[:1]))
        for picture in [[[1], [16]], [[1], (1,)], [[1], [1, 2]], [[5], None]]:
            self.check_refused(BadPicture, ordered_picture, picture, Palette(GREYS[:1]))


class TestFewerCells(FewerCase):

    def check_fewer(self, due, picture, many, colours=GREYS):
        palette = Palette(list(colours))
        self.check_told(due, lambda rows: fewer_cells(rows, palette, many), picture)
        self.check_stays(palette, list(colours))

    def test_just_as_many_as_are_used(self):
        for many in range(1, 9):
            for most in range(many, 17):
                self.check_fewer([list(range(many))], [list(range(many))], most)
        self.check_fewer([[7, 7], [0, 3]], [[7, 7], [0, 3]], 3)

    def test_one_less(self):
        self.check_fewer([[0, 0, 0, 6, 6]], [[0, 0, 1, 6, 6]], 2)
        self.check_fewer([[0, 0, 6, 6, 6]], [[0, 0, 7, 6, 6]], 2)
        self.check_fewer([[1, 1, 1, 6, 6]], [[1, 1, 2, 6, 6]], 2)

    def test_the_one_used_least_goes(self):
        self.check_fewer([[1, 1, 1, 2, 2, 1]], [[1, 1, 1, 2, 2, 0]], 2)
        self.check_fewer([[0, 0, 0, 2, 2, 0]], [[0, 0, 0, 2, 2, 1]], 2)
        self.check_fewer([[0, 0, 0, 1, 1, 1]], [[0, 0, 0, 1, 1, 2]], 2)

    def test_of_several_used_least_the_greatest_goes(self):
        self.check_fewer([[0, 1, 1]], [[0, 1, 2]], 2)
        self.check_fewer([[0, 2, 2, 2]], [[0, 2, 2, 3]], 2)
        self.check_fewer([[4, 4, 2, 2]], [[4, 4, 3, 2]], 2)
        # A greater one is there, but it is used more often.
        self.check_fewer([[0, 0, 7, 7]], [[0, 1, 7, 7]], 2)

    def test_of_several_as_near_the_least(self):
        colours = [(10, 0, 0), (20, 0, 0), (0, 0, 0), (15, 0, 0)]
        self.check_fewer([[0, 0, 1, 1, 0]], [[0, 0, 1, 1, 3]], 2, colours)
        self.check_fewer([[1, 1, 0, 0, 0]], [[1, 1, 0, 0, 3]], 2, colours)
        self.check_fewer([[1, 1, 2, 2, 2, 1]], [[1, 1, 2, 2, 2, 0]], 2, colours)
        self.check_fewer([[1, 1, 3, 3, 3]], [[1, 1, 3, 3, 0]], 2, colours)

    def test_a_colour_that_is_not_used_takes_nothing(self):
        # 3 is far nearer to 2 than 7 is, but isn't used.
        self.check_fewer([[0, 0, 0, 7, 7]], [[0, 0, 2, 7, 7]], 2)
        self.check_fewer([[7, 7, 7]], [[7, 7, 2]], 1)

    def test_step_by_step_with_the_counts_as_they_are_then(self):
        # 3 goes to 2 first; then there are three of 2, and of 0 and 1, two each, it is 1 that goes.
        self.check_fewer([[0, 0, 0, 0, 2, 2, 2]], [[0, 0, 1, 1, 2, 2, 3]], 2)
        # By the first counts 4 would go behind 5; by those then it has grown, and 2 goes to the nearest.
        self.check_fewer([[0, 0, 0, 0, 0, 4, 4, 4, 4]], [[0, 0, 0, 2, 2, 4, 4, 5, 4]], 2)
        # What came to another one goes on with it, everywhere.
        self.check_fewer([[0] * 6], [[3, 2, 1, 0, 0, 0]], 1)
        self.check_fewer([[0] * 3, [0] * 3], [[0, 0, 0], [1, 2, 3]], 1)

    def test_one_alone(self):
        for cell in range(8):
            for many in range(1, 17):
                self.check_fewer([[cell] * 2, [cell] * 2], [[cell] * 2, [cell] * 2], many)
        self.check_fewer([[0] * 8], [list(range(8))], 1)

    def test_every_many_of_small_pictures(self):
        colours = [(0, 0, 0), (4, 0, 0), (2, 2, 0), (0, 0, 4), (2, 0, 0)]
        for cells in itertools.product(range(5), repeat=5):
            for many in [1, 2, 3, 4]:
                picture = [list(cells[:5])]
                due = walked_to_fewer(picture, colours, many)
                told = fewer_cells(picture, Palette(colours), many)
                self.assertEqual(told, due, (picture, many))

    def test_sizes(self):
        colours = made_colours(16)
        for wide, high in SIZES:
            for many in range(1, 17):
                due = walked_to_fewer(made_picture(wide, high), colours, many)
                with self.subTest(wide=wide, high=high, many=many):
                    self.check_fewer(due, made_picture(wide, high), many, colours)

    def test_a_row_that_stands_twice(self):
        self.check_fewer([[1, 2], [1, 2]], row_twice(), 2)
        self.check_fewer([[1, 1], [1, 1]], row_twice(), 1)

    def test_no_many(self):
        for what, thing in no_manys():
            for picture in [[[0]], [[0, 1]], made_picture(24, 24)]:
                with self.subTest(what=what):
                    self.check_refused(BadSize, fewer_cells, picture, Palette(made_colours(16)), thing)

    def test_a_cell_that_the_palette_has_not(self):
        palette = Palette(GREYS[:3])
        for many in [1, 2, 16, 0, 17, True, None, "1", [1]]:
            for cell in range(3, 16):
                for picture in [[[cell]], [[0, 0], [0, cell]], [[cell, 0], [0, 0]]]:
                    with self.subTest(many=many, cell=cell):
                        self.check_refused(NoColour, fewer_cells, picture, palette, many)
        self.check_stays(palette, GREYS[:3])

    def test_no_picture(self):
        for what, thing in no_pictures():
            for many in [1, 0, None]:
                with self.subTest(what=what, many=many):
                    self.check_refused(BadPicture, fewer_cells, thing, Palette(GREYS[:1]), many)
        for picture in [[[1], [16]], [[1], (1,)], [[1], [1, 2]], [[5], None]]:
            self.check_refused(BadPicture, fewer_cells, picture, Palette(GREYS[:1]), 17)


if __name__ == "__main__":
    unittest.main()
