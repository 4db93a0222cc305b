"""Palettes (6), pictures shown and taken by them; what is refused and kept (1)."""

import unittest

from cellfolio.errors import BadCell, BadColour, BadPalette, BadPicture, NoColour, TooMany
from cellfolio.palettes import Palette, poured_palettes, recoloured, shown_picture, taken_picture
from tests.things import (Case, HUGE, made_colours, made_picture, no_cells, no_colours, no_lists_of_cells, no_numbers,
                          no_pictures, row_twice)

SIZES = [(1, 1), (1, 2), (2, 1), (3, 2), (2, 3), (5, 5), (1, 24), (24, 1), (24, 23), (23, 24), (24, 24)]
BLACK = (0, 0, 0)
RED = (255, 0, 0)
GREEN = (0, 255, 0)
BLUE = (0, 0, 255)
WHITE = (255, 255, 255)


def shown_rows(picture, colours):
    return [[colours[cell] for cell in row] for row in picture]


def no_rows_of_colours():
    """Pairs (what it is, the thing): none is a list of lists of colours with the form of a picture."""
    pairs = no_pictures() + [("a colour", RED), ("a list of colours", [RED]), ("a tuple of lists", ([RED], [RED]))]
    pairs += [("a tuple of tuples", ((RED,),)), ("a list of a tuple", [(RED,)]), ("a tuple behind", [[RED], (RED,)])]
    pairs += [("a tuple ahead", [(RED,), [RED]]), ("a palette", Palette([RED])), ("a list of palettes", [[Palette([RED])]])]
    pairs += [("longer", [[RED], [RED, BLUE]]), ("shorter", [[RED, BLUE], [RED]]), ("an empty one", [[RED], []])]
    pairs += [("an empty one ahead", [[], [RED]]), ("the last longer", [[RED]] * 3 + [[RED, RED]])]
    pairs += [("one deeper", [[[RED]]]), ("a dict", {0: [RED]}), ("a row that is a dict", [{0: RED}]), ("None", [[RED], None])]
    pairs += [("25 rows", [[RED] for y in range(25)]), ("25 colours", [[RED] * 25]), ("26 rows", [[RED] for y in range(26)])]
    pairs += [("25 in each", [[RED] * 25, [BLUE] * 25]), ("25 rows of 24", [[RED] * 24 for y in range(25)])]
    for what, thing in no_colours():
        pairs += [("alone: " + what, [[thing]]), ("first: " + what, [[thing, RED], [RED, BLUE]])]
        pairs += [("in the first row: " + what, [[RED, thing], [RED, BLUE]])]
        pairs += [("in the last row: " + what, [[RED, BLUE], [thing, RED]]), ("last: " + what, [[RED, BLUE], [BLUE, thing]])]
    return pairs


class PaletteCase(Case):

    def check_palette(self, palette, colours):
        """It has these colours, in this order, and no others."""
        self.assertIs(type(palette), Palette)
        self.check_same(palette.colours(), list(colours))
        self.check_same(palette.many(), len(colours))
        for cell, colour in enumerate(colours):
            self.check_same(palette.colour_of(cell), colour)
            self.check_same(palette.cell_of(colour), cell)
        self.check_refused(NoColour, palette.colour_of, len(colours))


class TestInterface(Case):

    def test_arguments(self):
        self.check_arguments(Palette, ["colours"])
        palette = Palette([RED])
        self.check_arguments(palette.colours, [])
        self.check_arguments(palette.many, [])
        self.check_arguments(palette.colour_of, ["cell"])
        for function in [palette.cell_of, palette.add_colour, palette.nearest_cell]:
            self.check_arguments(function, ["colour"])
        self.check_arguments(shown_picture, ["picture", "palette"])
        self.check_arguments(taken_picture, ["rows"])
        self.check_arguments(poured_palettes, ["one", "other"])
        self.check_arguments(recoloured, ["picture", "numbers"])


class TestMade(PaletteCase):

    def test_of_so_many(self):
        for many in range(1, 17):
            with self.subTest(many=many):
                self.check_palette(Palette(made_colours(many)), made_colours(many))

    def test_of_too_many(self):
        for many in [17, 18, 32, 600]:
            colours = [(k & 255, k >> 8, 3) for k in range(many)]
            with self.subTest(many=many):
                self.check_refused(BadPalette, Palette, colours)

    def test_of_none(self):
        self.check_refused(BadPalette, Palette, [])

    def test_what_is_no_list(self):
        pairs = no_numbers() + [("a number", 1), ("a colour", RED), ("a tuple of colours", (RED, BLUE))]
        pairs += [("a tuple of one", (RED,)), ("a dict", {RED: BLUE}), ("a set", {RED}), ("a palette", Palette([RED]))]
        pairs += [("lists in a list", [[RED]]), ("a text", "#ff0000"), ("a list of texts", ["#ff0000"])]
        for what, thing in pairs:
            with self.subTest(what=what):
                self.check_refused(BadPalette, Palette, thing)

    def test_one_colour_twice(self):
        for many in range(2, 17):
            for one in range(many):
                for other in [0, one // 2, one - 1]:
                    colours = made_colours(many)
                    if 0 <= other < one:
                        colours[one] = colours[other]
                        with self.subTest(many=many, one=one, other=other):
                            self.check_refused(BadPalette, Palette, colours)
        self.check_refused(BadPalette, Palette, [RED, (255, 0, 0)])
        self.check_refused(BadPalette, Palette, [BLUE, RED, tuple([0, 0, 255])])
        self.check_refused(BadPalette, Palette, made_colours(16) + made_colours(1))

    def test_parts_in_another_order_are_another_colour(self):
        colours = [(1, 2, 3), (1, 3, 2), (2, 1, 3), (2, 3, 1), (3, 1, 2), (3, 2, 1)]
        self.check_palette(Palette(list(colours)), colours)

    def test_what_is_no_colour_at_any_place(self):
        for what, thing in no_colours():
            for place in range(4):
                colours = [RED, GREEN, BLUE, WHITE]
                colours[place] = thing
                with self.subTest(what=what, place=place):
                    self.check_refused(BadPalette, Palette, colours)
        for place in range(16):
            colours = made_colours(16)
            colours[place] = list(colours[place])
            self.check_refused(BadPalette, Palette, colours)

    def test_the_list_behind_it(self):
        colours = [RED, GREEN]
        palette = Palette(colours)
        self.assertEqual(colours, [RED, GREEN])
        colours[0] = BLUE
        colours.append(WHITE)
        self.check_palette(palette, [RED, GREEN])
        colours.clear()
        self.check_palette(palette, [RED, GREEN])
        colours = [RED, GREEN]
        palette = Palette(colours)
        palette.add_colour(BLUE)
        self.assertEqual(colours, [RED, GREEN])

    def test_two_of_one_list(self):
        colours = [RED, GREEN]
        one, other = Palette(colours), Palette(colours)
        one.add_colour(BLUE)
        self.check_palette(one, [RED, GREEN, BLUE])
        self.check_palette(other, [RED, GREEN])


class TestTells(PaletteCase):

    def test_colours_are_told_in_a_list_of_its_own(self):
        palette = Palette([RED, GREEN])
        told = palette.colours()
        told.append(BLUE)
        self.check_palette(palette, [RED, GREEN])
        told.clear()
        self.check_palette(palette, [RED, GREEN])
        before = palette.colours()
        palette.add_colour(WHITE)
        self.assertEqual(before, [RED, GREEN])
        self.check_palette(palette, [RED, GREEN, WHITE])

    def test_colour_of_anything_else(self):
        pairs = no_cells() + [("a colour", RED), ("its text", "#ff0000"), ("-2", -2), ("-3", -3)]
        for many in [1, 2, 3, 15, 16]:
            palette = Palette(made_colours(many))
            for what, thing in pairs:
                with self.subTest(many=many, what=what):
                    self.check_refused(NoColour, palette.colour_of, thing)
            for cell in range(-20, 40):
                if not 0 <= cell < many:
                    with self.subTest(many=many, cell=cell):
                        self.check_refused(NoColour, palette.colour_of, cell)
            self.check_palette(palette, made_colours(many))

    def test_the_cell_just_beyond_is_one_behind_add_colour(self):
        palette = Palette(made_colours(1))
        for many in range(1, 16):
            self.check_refused(NoColour, palette.colour_of, many)
            self.check_same(palette.add_colour(made_colours(16)[many]), many)
            self.check_same(palette.colour_of(many), made_colours(16)[many])
        self.check_refused(NoColour, palette.colour_of, 16)

    def test_cell_of(self):
        palette = Palette([RED, GREEN, BLUE])
        self.check_same(palette.cell_of((0, 255, 0)), 1)
        for colour in [WHITE, BLACK, (255, 0, 1), (254, 0, 0), (0, 0, 0), (255, 255, 0)]:
            self.assertIsNone(palette.cell_of(colour))
        self.check_palette(palette, [RED, GREEN, BLUE])

    def test_no_colour(self):
        for many in [1, 3, 16]:
            palette = Palette(made_colours(many))
            for what, thing in no_colours():
                with self.subTest(what=what, many=many):
                    self.check_refused(BadColour, palette.cell_of, thing)
                    self.check_refused(BadColour, palette.add_colour, thing)
                    self.check_refused(BadColour, palette.nearest_cell, thing)
            self.check_palette(palette, made_colours(many))


class TestAddColour(PaletteCase):

    def test_an_old_one(self):
        for many in [1, 2, 15, 16]:
            palette = Palette(made_colours(many))
            for cell, colour in enumerate(made_colours(many)):
                with self.subTest(many=many, cell=cell):
                    self.check_same(palette.add_colour(colour), cell)
                    self.check_palette(palette, made_colours(many))

    def test_a_new_one(self):
        palette = Palette([RED])
        self.check_same(palette.add_colour(BLUE), 1)
        self.check_palette(palette, [RED, BLUE])
        self.check_same(palette.add_colour(GREEN), 2)
        self.check_palette(palette, [RED, BLUE, GREEN])
        self.check_same(palette.add_colour(BLUE), 1)
        self.check_palette(palette, [RED, BLUE, GREEN])

    def test_a_seventeenth(self):
        palette = Palette(made_colours(1))
        for cell in range(1, 16):
            self.check_same(palette.add_colour(made_colours(17)[cell]), cell)
        for colour in [made_colours(17)[16], (1, 1, 1), WHITE]:
            self.check_refused(TooMany, palette.add_colour, colour)
            self.check_palette(palette, made_colours(16))
            self.assertIsNone(palette.cell_of(colour))
        self.check_same(palette.add_colour(made_colours(16)[7]), 7)


class TestNearestCell(PaletteCase):

    def test_its_own(self):
        palette = Palette(made_colours(16))
        for cell, colour in enumerate(made_colours(16)):
            self.check_same(palette.nearest_cell(colour), cell)

    def test_of_one(self):
        for colour in [BLACK, WHITE, RED]:
            self.check_same(Palette([GREEN]).nearest_cell(colour), 0)

    def test_of_several_alike_the_least(self):
        self.check_same(Palette([(0, 0, 2), (0, 2, 0), (2, 0, 0)]).nearest_cell((0, 0, 0)), 0)
        self.check_same(Palette([(9, 9, 9), (0, 2, 0), (2, 0, 0)]).nearest_cell((0, 0, 0)), 1)
        self.check_same(Palette([(9, 9, 9), (10, 0, 0), (20, 0, 0)]).nearest_cell((15, 0, 0)), 1)
        self.check_same(Palette([(20, 0, 0), (9, 9, 9), (10, 0, 0)]).nearest_cell((15, 0, 0)), 0)
        self.check_same(Palette([(200, 0, 0), (0, 0, 5), (3, 4, 0), (4, 0, 3)]).nearest_cell((0, 0, 0)), 1)

    def test_by_squares(self):
        # By the sum of what parts differ by, and by the most of them, the other one would be nearer.
        self.check_same(Palette([(5, 0, 0), (3, 3, 0)]).nearest_cell((0, 0, 0)), 1)
        self.check_same(Palette([(4, 4, 4), (6, 0, 0)]).nearest_cell((0, 0, 0)), 1)

    def test_against_a_walk(self):
        colours = made_colours(16)
        for many in [1, 2, 5, 16]:
            palette = Palette(colours[:many])
            for red in range(0, 256, 51):
                for green in range(0, 256, 51):
                    for blue in range(0, 256, 51):
                        far = [(red - r) ** 2 + (green - g) ** 2 + (blue - b) ** 2 for r, g, b in colours[:many]]
                        self.check_same(palette.nearest_cell((red, green, blue)), far.index(min(far)))
            self.check_palette(palette, colours[:many])


class TestShownPicture(PaletteCase):

    def test_written_out(self):
        palette = Palette([RED, GREEN, BLUE])
        self.check_told([[GREEN, RED], [BLUE, BLUE]], lambda picture: shown_picture(picture, palette), [[1, 0], [2, 2]])
        self.check_palette(palette, [RED, GREEN, BLUE])

    def test_sizes(self):
        palette = Palette(made_colours(16))
        for wide, high in SIZES:
            due = shown_rows(made_picture(wide, high), made_colours(16))
            with self.subTest(wide=wide, high=high):
                self.check_told(due, lambda picture: shown_picture(picture, palette), made_picture(wide, high))

    def test_rows_that_are_alike(self):
        palette = Palette([RED, GREEN, BLUE])
        for picture in [row_twice(), [[1, 2], [1, 2]]]:
            self.check_told([[GREEN, BLUE], [GREEN, BLUE]], lambda picture: shown_picture(picture, palette), picture)

    def test_colours_added_behind_change_nothing(self):
        palette = Palette([RED, GREEN])
        told = shown_picture([[1, 0]], palette)
        palette.add_colour(BLUE)
        self.assertEqual(told, [[GREEN, RED]])

    def test_a_cell_that_the_palette_has_not(self):
        for many in range(1, 16):
            palette = Palette(made_colours(many))
            for cell in range(many, 16):
                for picture in [[[cell]], [[0, 0], [0, cell]], [[cell, 0], [0, 0]], [[0] * 24] * 23 + [[0] * 23 + [cell]]]:
                    with self.subTest(many=many, cell=cell):
                        self.check_refused(NoColour, shown_picture, picture, palette)
            self.check_told([[made_colours(many)[-1]]], lambda picture: shown_picture(picture, palette), [[many - 1]])
            self.check_palette(palette, made_colours(many))

    def test_no_picture(self):
        for palette in [Palette([RED]), Palette(made_colours(16))]:
            for what, thing in no_pictures():
                with self.subTest(what=what):
                    self.check_refused(BadPicture, shown_picture, thing, palette)
        for picture in [[[1], [16]], [[1], [True]], [[1], (1,)], [[1], [1, 2]], [[5], None], [[15] * 25]]:
            self.check_refused(BadPicture, shown_picture, picture, Palette([RED]))


class TestTakenPicture(PaletteCase):

    def taken(self, rows):
        told = taken_picture(rows)
        self.assertIs(type(told), tuple)
        self.assertEqual(len(told), 2)
        self.check_palette(told[0], told[0].colours())
        return (told[0].colours(), told[1])

    def test_in_order_row_by_row(self):
        rows = [[BLUE, RED, BLUE], [GREEN, RED, WHITE]]
        self.check_told(([BLUE, RED, GREEN, WHITE], [[0, 1, 0], [2, 1, 3]]), self.taken, rows)
        self.check_told(([RED], [[0]]), self.taken, [[RED]])
        self.check_told(([WHITE, BLACK], [[0, 1]]), self.taken, [[WHITE, BLACK]])
        self.check_told(([WHITE, BLACK], [[0], [1]]), self.taken, [[WHITE], [BLACK]])
        # Down the columns green would come ahead of red.
        self.check_told(([BLUE, RED, GREEN], [[0, 1], [2, 0]]), self.taken, [[BLUE, RED], [GREEN, BLUE]])

    def test_rows_that_are_alike(self):
        row = [RED, BLUE]
        self.check_told(([RED, BLUE], [[0, 1], [0, 1]]), self.taken, [row, row])
        self.check_told(([RED], [[0] * 24 for y in range(24)]), self.taken, [[RED] * 24 for y in range(24)])

    def test_shown_again(self):
        for wide, high in SIZES:
            rows = shown_rows(made_picture(wide, high), made_colours(16))
            with self.subTest(wide=wide, high=high):
                palette, picture = taken_picture(rows)
                self.check_same(shown_picture(picture, palette), rows)
                first = []
                for row in rows:
                    first += [colour for place, colour in enumerate(row) if colour not in first + row[:place]]
                self.check_palette(palette, first)

    def test_sizes_up_to_24(self):
        for wide in range(1, 25):
            for high in [1, 2, 23, 24]:
                self.check_told(([RED], [[0] * wide for y in range(high)]), self.taken, [[RED] * wide for y in range(high)])
                self.check_told(([RED], [[0] * high for y in range(wide)]), self.taken, [[RED] * high for y in range(wide)])

    def test_so_many_colours(self):
        for many in [15, 16]:
            self.check_told((made_colours(many), [list(range(many))]), self.taken, [made_colours(many)])
            self.check_told((made_colours(many), [[cell] for cell in range(many)]), self.taken,
                            [[colour] for colour in made_colours(many)])
        back = made_colours(16) + made_colours(8)
        self.check_told((made_colours(16), [list(range(16)) + list(range(8))]), self.taken, [back])

    def test_too_many_colours(self):
        for many in [17, 18, 24]:
            self.check_refused(TooMany, taken_picture, [made_colours(many)])
            self.check_refused(TooMany, taken_picture, [[colour] for colour in made_colours(many)])
        self.check_refused(TooMany, taken_picture, [made_colours(16), [RED] * 15 + [(1, 1, 1)]])
        self.check_refused(TooMany, taken_picture, [[(y, x, 0) for x in range(24)] for y in range(24)])

    def test_no_rows(self):
        for what, thing in no_rows_of_colours():
            with self.subTest(what=what):
                self.check_refused(BadPicture, taken_picture, thing)

    def test_too_many_colours_and_a_last_row_that_is_none(self):
        colours = made_colours(17)
        lasts = [None, tuple(colours), [], colours[:16], colours + [RED], colours[:16] + [None], colours[:16] + [(1, 2)]]
        lasts += [[True] * 17, [0] * 17, colours[:16] + [[1, 2, 3]], colours[:16] + [(0, 0, 256)], "x" * 17]
        for last in lasts:
            with self.subTest(last=last):
                self.check_refused(BadPicture, taken_picture, [colours, last])
                self.check_refused(BadPicture, taken_picture, [colours, list(colours), last])
        self.check_refused(BadPicture, taken_picture, [[(x, 0, 0) for x in range(25)]])
        self.check_refused(BadPicture, taken_picture, [[(y, 0, 0)] for y in range(25)])

    def test_each_palette_is_its_own(self):
        rows = [[RED, GREEN]]
        one, other = taken_picture(rows)[0], taken_picture(rows)[0]
        one.add_colour(BLUE)
        self.check_palette(other, [RED, GREEN])
        self.check_palette(taken_picture(rows)[0], [RED, GREEN])
        self.assertEqual(rows, [[RED, GREEN]])


class TestPouredPalettes(PaletteCase):

    def check_poured(self, one, other, due, numbers):
        first, second = Palette(list(one)), Palette(list(other))
        told = poured_palettes(first, second)
        self.assertIs(type(told), tuple)
        self.assertEqual(len(told), 2)
        self.check_palette(told[0], due)
        self.check_same(told[1], numbers)
        for place, colour in enumerate(other):
            self.check_same(told[0].colour_of(told[1][place]), colour)
        told[1].clear()
        self.check_palette(first, one)
        self.check_palette(second, other)
        self.check_same(poured_palettes(first, second)[1], numbers)

    def test_none_lacking(self):
        self.check_poured([RED, GREEN, BLUE], [BLUE, RED], [RED, GREEN, BLUE], [2, 0])
        self.check_poured([RED], [RED], [RED], [0])
        self.check_poured(made_colours(16), made_colours(16)[::-1], made_colours(16), list(range(15, -1, -1)))

    def test_some_lacking(self):
        self.check_poured([RED, GREEN], [WHITE, GREEN, BLUE, RED], [RED, GREEN, WHITE, BLUE], [2, 1, 3, 0])
        self.check_poured([RED], [GREEN, RED], [RED, GREEN], [1, 0])

    def test_all_lacking(self):
        self.check_poured([RED, GREEN], [WHITE, BLUE, BLACK], [RED, GREEN, WHITE, BLUE, BLACK], [2, 3, 4])
        self.check_poured([RED], [GREEN], [RED, GREEN], [1])

    def test_every_cut(self):
        colours = made_colours(16)
        for many in range(1, 17):
            for start in range(16):
                one, other = colours[:many], colours[start:]
                due = colours[:many] + [colour for colour in other if colour not in one]
                with self.subTest(many=many, start=start):
                    self.check_poured(one, other, due, [due.index(colour) for colour in other])

    def test_too_many(self):
        colours = made_colours(17)
        for many in range(1, 17):
            one, other = Palette(colours[:many]), Palette(colours[many:])
            with self.subTest(many=many):
                self.check_refused(TooMany, poured_palettes, one, other)
                self.check_refused(TooMany, poured_palettes, other, one)
                self.check_palette(one, colours[:many])
                self.check_palette(other, colours[many:])
        self.check_refused(TooMany, poured_palettes, Palette(colours[:16]), Palette(colours[1:]))
        self.check_refused(TooMany, poured_palettes, Palette(colours[:16]), Palette([colours[0], RED, colours[1]]))

    def test_adding_to_one_changes_no_other(self):
        for one, other in [([RED], [BLUE]), ([RED, BLUE], [BLUE]), ([RED], [RED])]:
            for place in range(3):
                palettes = [Palette(list(one)), Palette(list(other))]
                poured, numbers = poured_palettes(*palettes)
                palettes.append(poured)
                before = [palette.colours() for palette in palettes]
                palettes[place].add_colour(WHITE)
                with self.subTest(one=one, other=other, place=place):
                    for k, palette in enumerate(palettes):
                        self.check_palette(palette, before[k] + [WHITE] if k == place else before[k])
                    self.assertEqual(numbers, [before[2].index(colour) for colour in other])

    def test_with_itself(self):
        palette = Palette([RED, BLUE])
        poured, numbers = poured_palettes(palette, palette)
        self.assertEqual(numbers, [0, 1])
        poured.add_colour(WHITE)
        self.check_palette(palette, [RED, BLUE])
        self.check_palette(poured, [RED, BLUE, WHITE])


class TestRecoloured(PaletteCase):

    def test_cell_by_cell(self):
        self.check_told([[5, 4], [3, 5]], recoloured, [[0, 1], [2, 0]], [5, 4, 3])
        self.check_told([[7, 7]], recoloured, [[0, 1]], [7, 7])
        # Each cell is changed once: 0 to 1, and not on to 2.
        self.check_told([[1, 2, 0]], recoloured, [[0, 1, 2]], [1, 2, 0])

    def test_sizes(self):
        numbers = [(5 * cell + 3) % 16 for cell in range(16)]
        for wide, high in SIZES:
            due = [[(5 * cell + 3) % 16 for cell in row] for row in made_picture(wide, high)]
            with self.subTest(wide=wide, high=high):
                self.check_told(due, recoloured, made_picture(wide, high), list(numbers))
                self.check_told(made_picture(wide, high), recoloured, made_picture(wide, high), list(range(16)))

    def test_rows_that_are_alike(self):
        self.check_told([[8, 9], [8, 9]], recoloured, row_twice(), [7, 8, 9])
        self.check_told([[8, 9], [8, 9]], recoloured, [[1, 2], [1, 2]], [7, 8, 9])

    def test_lists_of_every_length(self):
        for many in range(0, 17):
            for cell in range(16):
                numbers = [15 - number for number in range(many)]
                with self.subTest(many=many, cell=cell):
                    if cell < many:
                        self.check_told([[15 - cell]], recoloured, [[cell]], numbers)
                    else:
                        self.check_refused(NoColour, recoloured, [[cell]], numbers)
                        self.check_refused(NoColour, recoloured, [[0, 0], [0, cell]], numbers)
                        self.check_refused(NoColour, recoloured, [[cell, 0], [0, 0]], numbers)

    def test_lists_too_long(self):
        for many in [17, 18, 24, 576, 577]:
            for picture in [[[0]], [[15]], made_picture(24, 24)]:
                self.check_refused(BadCell, recoloured, picture, [0] * many)

    def test_no_list_of_cells(self):
        for what, thing in no_lists_of_cells() + [("a tuple of all", tuple(range(16))), ("a dict", {0: 0})]:
            with self.subTest(what=what):
                self.check_refused(BadCell, recoloured, [[0]], thing)
                self.check_refused(BadCell, recoloured, [[15]], thing)

    def test_no_cell_at_any_place(self):
        for thing in [-1, 16, True, False, None, 1.0, "1", [1], HUGE]:
            for place in range(16):
                numbers = list(range(16))
                numbers[place] = thing
                with self.subTest(place=place):
                    self.check_refused(BadCell, recoloured, [[0]], numbers)
                    self.check_refused(BadCell, recoloured, [[15]], numbers)
                    self.check_refused(BadCell, recoloured, [[15]], numbers[:place + 1])

    def test_no_picture(self):
        for what, thing in no_pictures():
            for numbers in [list(range(16)), [], [16], None, (0,)]:
                with self.subTest(what=what, numbers=numbers):
                    self.check_refused(BadPicture, recoloured, thing, numbers)

    def test_back_by_poured_palettes(self):
        one, other = Palette([RED, GREEN]), Palette([BLUE, GREEN, WHITE])
        poured, numbers = poured_palettes(one, other)
        picture = [[0, 1, 2], [2, 1, 0]]
        told = shown_picture(recoloured(picture, numbers), poured)
        self.assertEqual(told, shown_picture(picture, other))


if __name__ == "__main__":
    unittest.main()
