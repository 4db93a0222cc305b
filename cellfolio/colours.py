"""Colours: tuples (red, green, blue), their numbers and texts, how far two are apart, and their mean."""

from cellfolio.errors import BadColour
from cellfolio.pictures import is_list_of_cells, is_whole_within
from cellfolio.rows import numbers_of_line, row_text

MOST_PART = 255
MOST_NUMBER = 16777215
MOST_MIXED = 576


def is_colour(thing):
    if not isinstance(thing, tuple) or len(thing) != 3:
        return False
    return all([is_whole_within(part, 0, MOST_PART) for part in thing])


def need_colour(colour):
    if not is_colour(colour):
        raise BadColour("this is no colour")


def colour_number(colour):
    need_colour(colour)
    return (colour[0] << 16) | (colour[1] << 8) | colour[2]


def colour_by_number(number):
    if not is_whole_within(number, 0, MOST_NUMBER):
        raise BadColour("this is no colour's number")
    return (number >> 16, (number >> 8) & 255, number & 255)


def colour_text(colour):
    number = colour_number(colour)
    # A colour's signs are those of cells: each stands for four bits.
    return "#" + row_text([(number >> shift) & 15 for shift in range(20, -1, -4)])


def colour_of_text(text):
    if not isinstance(text, str) or len(text) != 7 or not text.startswith("#"):
        raise BadColour("this is no colour's text")
    cells = numbers_of_line(text[1:])
    if not is_list_of_cells(cells):
        raise BadColour("this is no colour's text")
    number = 0
    for cell in cells:
        number = (number << 4) | cell
    return colour_by_number(number)


def apart(one, other):
    need_colour(one)
    need_colour(other)
    return sum([(part - other[place]) ** 2 for place, part in enumerate(one)])


def mean_part(colours, place):
    many = len(colours)
    # A half is added to the mean ahead of the cut, so that what lies in the midst comes to the greater number.
    return (2 * sum([colour[place] for colour in colours]) + many) // (2 * many)


def mixed_colour(colours):
    if not isinstance(colours, list) or not is_whole_within(len(colours), 1, MOST_MIXED):
        raise BadColour("this is no list of 1 to 576 colours")
    if not all([is_colour(colour) for colour in colours]):
        raise BadColour("a thing in the list is no colour")
    return (mean_part(colours, 0), mean_part(colours, 1), mean_part(colours, 2))
