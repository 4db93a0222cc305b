"""Pictures as texts, and as one list of cells."""

from cellfolio.errors import BadCell, BadSize, BadText
from cellfolio.pictures import is_list_of_cells, is_picture, is_side, need_picture

CELL_SIGNS = "0123456789abcdef"


def row_text(row):
    return "".join([CELL_SIGNS[cell] for cell in row])


def text_of_picture(picture):
    need_picture(picture)
    return "\n".join([row_text(row) for row in picture])


def numbers_of_line(line):
    # A sign that is no cell's comes to -1, so that the picture it would stand in is none.
    return [CELL_SIGNS.find(sign) for sign in line]


def picture_of_text(text):
    if not isinstance(text, str):
        raise BadText("this is no text")
    picture = [numbers_of_line(line) for line in text.split("\n")]
    if not is_picture(picture):
        raise BadText("this is no picture's text")
    return picture


def all_cells(picture):
    need_picture(picture)
    cells = []
    for row in picture:
        cells.extend(row)
    return cells


def rows_by(cells, wide):
    if not is_list_of_cells(cells):
        raise BadCell("this is no list of cells")
    if not is_side(wide) or len(cells) % wide != 0:
        raise BadSize("the cells don't part into rows of that width")
    if not is_side(len(cells) // wide):
        raise BadSize("no picture has so many rows")
    return [cells[start:start + wide] for start in range(0, len(cells), wide)]
