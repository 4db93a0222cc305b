"""Palettes of 1 to 16 unlike colours: pictures shown by them, taken by them, and led from one to another."""

from cellfolio.colours import apart, is_colour, need_colour
from cellfolio.errors import BadPalette, BadPicture, NoColour, TooMany
from cellfolio.pictures import are_rows_of, is_list_of, is_whole_within, need_cells, need_picture
from cellfolio.rows import all_cells

MOST_COLOURS = 16


class Palette:

    def __init__(self, colours):
        if not is_list_of(colours, is_colour) or not is_whole_within(len(colours), 1, MOST_COLOURS):
            raise BadPalette("this is no list of 1 to 16 colours")
        if len(set(colours)) != len(colours):
            raise BadPalette("a colour stands in the list twice")
        self.kept = list(colours)

    def colours(self):
        return list(self.kept)

    def many(self):
        return len(self.kept)

    def colour_of(self, cell):
        if not is_whole_within(cell, 0, self.many() - 1):
            raise NoColour("the palette has no such cell")
        return self.kept[cell]

    def cell_of(self, colour):
        need_colour(colour)
        return self.kept.index(colour) if colour in self.kept else None

    def add_colour(self, colour):
        cell = self.cell_of(colour)
        if cell is not None:
            return cell
        if self.many() == MOST_COLOURS:
            raise TooMany("the palette has sixteen colours already")
        self.kept.append(colour)
        return self.many() - 1

    def nearest_cell(self, colour):
        need_colour(colour)
        ways = [apart(colour, own) for own in self.kept]
        # The first place of the least is the least cell.
        return ways.index(min(ways))


def need_cells_below(picture, many):
    if max(all_cells(picture)) >= many:
        raise NoColour("a cell of the picture has no colour")


def need_shown(picture, palette):
    """Refuses what is no picture, and then one with a cell that the palette has not."""
    need_cells_below(picture, palette.many())


def shown_picture(picture, palette):
    need_shown(picture, palette)
    return [[palette.colour_of(cell) for cell in row] for row in picture]


def taken_picture(rows):
    if not are_rows_of(rows, is_colour):
        raise BadPicture("these are no rows of colours")
    palette = Palette([rows[0][0]])
    picture = [[palette.add_colour(colour) for colour in row] for row in rows]
    return (palette, picture)


def poured_palettes(one, other):
    poured = Palette(one.colours())
    numbers = [poured.add_colour(colour) for colour in other.colours()]
    return (poured, numbers)


def recoloured(picture, numbers):
    need_picture(picture)
    need_cells(numbers, MOST_COLOURS)
    need_cells_below(picture, len(numbers))
    return [[numbers[cell] for cell in row] for row in picture]
