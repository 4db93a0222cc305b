"""A picture's text (3), and pictures as one list of cells (2)."""

import unittest

from cellfolio.errors import BadCell, BadPicture, BadSize, BadText
from cellfolio.rows import all_cells, picture_of_text, row_text, rows_by, text_of_picture
from tests.things import Case, made_picture, no_cells, no_pictures, no_sides, odd_things

SIZES = [(1, 1), (1, 2), (2, 1), (3, 2), (2, 3), (16, 1), (1, 24), (24, 1), (24, 23), (23, 24), (24, 24)]
SIGNS = "0123456789abcdef"


class TestInterface(Case):

    def test_arguments(self):
        self.check_arguments(row_text, ["row"])
        self.check_arguments(text_of_picture, ["picture"])
        self.check_arguments(picture_of_text, ["text"])
        self.check_arguments(all_cells, ["picture"])
        self.check_arguments(rows_by, ["cells", "wide"])


class TestRowText(Case):

    def test_each_sign(self):
        for cell in range(16):
            with self.subTest(cell=cell):
                self.check_told(SIGNS[cell], row_text, [cell])

    def test_in_order(self):
        self.check_told("0123456789abcdef", row_text, list(range(16)))
        self.check_told("fedcba9876543210", row_text, list(range(15, -1, -1)))
        self.check_told("00f0a", row_text, [0, 0, 15, 0, 10])
        self.check_told("9" * 24, row_text, [9] * 24)


class TestTextOfPicture(Case):

    def test_each_sign(self):
        for cell in range(16):
            with self.subTest(cell=cell):
                self.check_told(SIGNS[cell], text_of_picture, [[cell]])

    def test_rows_and_columns(self):
        self.check_told("0a\nf9\n10", text_of_picture, [[0, 10], [15, 9], [1, 0]])
        self.check_told("0123456789abcdef", text_of_picture, [list(range(16))])
        self.check_told("\n".join(SIGNS), text_of_picture, [[cell] for cell in range(16)])

    def test_sizes(self):
        for wide, high in SIZES:
            picture = made_picture(wide, high)
            due = "\n".join("".join(f"{cell:x}" for cell in row) for row in picture)
            with self.subTest(wide=wide, high=high):
                self.check_told(due, text_of_picture, picture)

    def test_refused(self):
        for what, thing in no_pictures():
            with self.subTest(what=what):
                self.check_refused(BadPicture, text_of_picture, thing)


class TestPictureOfText(Case):

    def test_each_sign(self):
        for cell in range(16):
            with self.subTest(cell=cell):
                self.check_told([[cell]], picture_of_text, SIGNS[cell])

    def test_rows_and_columns(self):
        self.check_told([[0, 10], [15, 9], [1, 0]], picture_of_text, "0a\nf9\n10")
        self.check_told([list(range(16))], picture_of_text, SIGNS)
        self.check_told([[cell] for cell in range(16)], picture_of_text, "\n".join(SIGNS))

    def test_read_back(self):
        for wide, high in SIZES:
            picture = made_picture(wide, high)
            with self.subTest(wide=wide, high=high):
                self.check_told(picture, picture_of_text, text_of_picture(picture))
                text = text_of_picture(picture)
                self.assertEqual(text_of_picture(picture_of_text(text)), text)

    def test_rows_that_are_alike_are_lists_of_their_own(self):
        picture = picture_of_text("00\n00")
        picture[0][0] = 1
        self.assertEqual(picture, [[1, 0], [0, 0]])
        self.assertEqual(picture_of_text("00\n00"), [[0, 0], [0, 0]])

    def test_most_rows_and_columns(self):
        self.check_told([[0] * 24], picture_of_text, "0" * 24)
        self.check_told([[1] for y in range(24)], picture_of_text, "\n".join("1" * 24))
        for text in ["0" * 25, "\n".join("1" * 25), "\n".join(["0" * 24] * 25), "\n".join(["0" * 25] * 24)]:
            with self.subTest(text=text):
                self.check_refused(BadText, picture_of_text, text)

    def test_long_texts(self):
        for text in ["0" * 4100, "\n" * 4100, "\n".join("0" * 2050), "z" * 4100, " " * 4100]:
            with self.subTest(start=text[:3]):
                self.check_refused(BadText, picture_of_text, text)

    def test_every_other_sign(self):
        for code in list(range(32, 127)) + [9, 13]:
            sign = chr(code)
            if sign in SIGNS or sign == "%":
                continue
            for text in [sign, sign + "0", "0" + sign, "00\n0" + sign, sign + "0\n00", "0\n" + sign, sign + "\n0"]:
                with self.subTest(text=text):
                    self.check_refused(BadText, picture_of_text, text)

    def test_line_ends(self):
        for text in ["", "\n", "\n\n", "\n0", "0\n", "0\n\n0", "\n0\n", "01\n23\n", "\n01\n23", "01\n\n23", "0\r\n0"]:
            with self.subTest(text=text):
                self.check_refused(BadText, picture_of_text, text)

    def test_blanks(self):
        for text in [" ", "0 ", " 0", "0 0", "0\n ", " \n0", "0 \n0", "\t", "0\t", "\t0", "0\t0", "0\n\t"]:
            with self.subTest(text=text):
                self.check_refused(BadText, picture_of_text, text)

    def test_lines_of_unlike_length(self):
        for text in ["0\n00", "00\n0", "00\n00\n0", "00\n0\n00", "0\n00\n00", "000\n00\n000"]:
            with self.subTest(text=text):
                self.check_refused(BadText, picture_of_text, text)

    def test_what_is_no_text(self):
        pairs = odd_things() + [("0", 0), ("12", 12), ("no rows", []), ("cells", [0]), ("a picture", [[0]])]
        pairs += [("a list of texts", ["0"]), ("a list of lines", ["01", "23"]), ("a tuple of texts", ("0",))]
        pairs += [("bytes of signs", b"01\n23"), ("a dict of texts", {"0": "0"})]
        for what, thing in pairs:
            with self.subTest(what=what):
                self.check_refused(BadText, picture_of_text, thing)


class TestAllCells(Case):

    def test_in_order(self):
        self.check_told([1, 2, 3, 4, 5, 6], all_cells, [[1, 2, 3], [4, 5, 6]])
        self.check_told([1, 2, 3, 4, 5, 6], all_cells, [[1, 2], [3, 4], [5, 6]])

    def test_sizes(self):
        for wide, high in SIZES:
            picture = made_picture(wide, high)
            due = [picture[y][x] for y in range(high) for x in range(wide)]
            with self.subTest(wide=wide, high=high):
                self.check_told(due, all_cells, picture)

    def test_one_row_is_a_list_of_its_own(self):
        picture = [[1, 2, 3]]
        cells = all_cells(picture)
        cells.append(4)
        self.assertEqual(picture, [[1, 2, 3]])

    def test_refused(self):
        for what, thing in no_pictures():
            with self.subTest(what=what):
                self.check_refused(BadPicture, all_cells, thing)


class TestRowsBy(Case):

    def test_in_order(self):
        self.check_told([[1, 2, 3], [4, 5, 6]], rows_by, [1, 2, 3, 4, 5, 6], 3)
        self.check_told([[1, 2], [3, 4], [5, 6]], rows_by, [1, 2, 3, 4, 5, 6], 2)
        self.check_told([[1], [2], [3]], rows_by, [1, 2, 3], 1)
        self.check_told([[1, 2, 3]], rows_by, [1, 2, 3], 3)
        self.check_told([list(range(16))], rows_by, list(range(16)), 16)

    def test_back_from_all_cells(self):
        for wide, high in SIZES:
            with self.subTest(wide=wide, high=high):
                self.check_told(made_picture(wide, high), rows_by, all_cells(made_picture(wide, high)), wide)

    def test_every_width_of_every_length(self):
        for many in range(0, 80):
            for wide in range(1, 25):
                cells = [(3 * place) % 16 for place in range(many)]
                with self.subTest(many=many, wide=wide):
                    if many > 0 and many % wide == 0 and many // wide <= 24:
                        told = rows_by(cells, wide)
                        self.assertEqual(len(told), many // wide)
                        self.assertEqual([len(row) for row in told], [wide] * (many // wide))
                        self.assertEqual(sum(told, []), cells)
                    else:
                        self.check_refused(BadSize, rows_by, cells, wide)

    def test_most_rows(self):
        for wide in [1, 2, 7, 24]:
            with self.subTest(wide=wide):
                self.check_told([[6] * wide for y in range(24)], rows_by, [6] * (24 * wide), wide)
                self.check_refused(BadSize, rows_by, [6] * (25 * wide), wide)
                self.check_refused(BadSize, rows_by, [6] * (48 * wide), wide)

    def test_no_cells_at_all(self):
        for wide in [1, 2, 24, 0, 25, None]:
            with self.subTest(wide=wide):
                self.check_refused(BadSize, rows_by, [], wide)

    def test_no_widths(self):
        for what, wide in no_sides():
            with self.subTest(what=what):
                self.check_refused(BadSize, rows_by, [0], wide)
                self.check_refused(BadSize, rows_by, [0] * 24, wide)
        for many in [25, 26, 48, 50, 576]:
            for wide in [25, 26, 48, 50, 576, 0, -1, -5, -25]:
                self.check_refused(BadSize, rows_by, [0] * many, wide)

    def test_no_list_of_cells(self):
        pairs = odd_things() + [("a cell", 0), ("a text", "0123"), ("an empty text", ""), ("a tuple", (0, 1))]
        pairs += [("a picture", [[0, 1]]), ("lists of none", [[]]), ("a text in a list", ["0"])]
        for what, thing in pairs:
            with self.subTest(what=what):
                self.check_refused(BadCell, rows_by, thing, 1)
                self.check_refused(BadCell, rows_by, thing, 0)
                self.check_refused(BadCell, rows_by, thing, None)

    def test_a_thing_that_is_no_cell_at_any_place(self):
        for what, thing in no_cells():
            for place in range(4):
                cells = [1, 2, 3, 4]
                cells[place] = thing
                with self.subTest(what=what, place=place):
                    self.check_refused(BadCell, rows_by, cells, 2)

    def test_cells_are_looked_at_ahead_of_the_width(self):
        for wide in [0, 25, True, None, 3, "2"]:
            for cells in [(1, 2), [1, 16], [True, 1], [1, None], None, "12", {1: 2}]:
                with self.subTest(cells=cells, wide=wide):
                    self.check_refused(BadCell, rows_by, cells, wide)


if __name__ == "__main__":
    unittest.main()
