"""Colours (6): their numbers, their texts, how far two are apart; what is refused and kept (1)."""

import unittest

from cellfolio.colours import (apart, colour_by_number, colour_number, colour_of_text, colour_text, is_colour,
                               mixed_colour)
from cellfolio.errors import BadColour
from tests.things import Case, HUGE, no_colours, no_numbers, odd_things

PARTS = [0, 1, 2, 15, 16, 17, 127, 128, 171, 254, 255]


def colours():
    return [(red, green, blue) for red in PARTS for green in PARTS for blue in PARTS]


class TestInterface(Case):

    def test_arguments(self):
        self.check_arguments(is_colour, ["thing"])
        self.check_arguments(colour_number, ["colour"])
        self.check_arguments(colour_text, ["colour"])
        self.check_arguments(colour_by_number, ["number"])
        self.check_arguments(colour_of_text, ["text"])
        self.check_arguments(apart, ["one", "other"])
        self.check_arguments(mixed_colour, ["colours"])


class TestIsColour(Case):

    def test_colours(self):
        for colour in colours():
            self.assertIs(is_colour(colour), True)

    def test_every_part(self):
        for part in range(-3, 260):
            for colour in [(part, 0, 255), (255, part, 0), (0, 255, part)]:
                with self.subTest(colour=colour):
                    self.assertIs(is_colour(colour), 0 <= part <= 255)

    def test_no_colours(self):
        for what, thing in no_colours():
            with self.subTest(what=what):
                self.assertIs(is_colour(thing), False)


class TestNumbers(Case):

    def test_written_out(self):
        self.check_told(0, colour_number, (0, 0, 0))
        self.check_told(1, colour_number, (0, 0, 1))
        self.check_told(256, colour_number, (0, 1, 0))
        self.check_told(65536, colour_number, (1, 0, 0))
        self.check_told(66051, colour_number, (1, 2, 3))
        self.check_told(16777215, colour_number, (255, 255, 255))
        self.check_told(0xff8001, colour_number, (255, 128, 1))
        self.check_told((1, 2, 3), colour_by_number, 66051)

    def test_there_and_back(self):
        for colour in colours():
            due = colour[0] * 65536 + colour[1] * 256 + colour[2]
            self.check_same(colour_number(colour), due)
            self.check_same(colour_by_number(due), colour)

    def test_bounds(self):
        self.check_told((0, 0, 0), colour_by_number, 0)
        self.check_told((0, 0, 1), colour_by_number, 1)
        self.check_told((255, 255, 254), colour_by_number, 2 ** 24 - 2)
        self.check_told((255, 255, 255), colour_by_number, 2 ** 24 - 1)

    def test_no_number(self):
        beyond = [-1, -2, 2 ** 24, 2 ** 24 + 1, -2 ** 24, 2 ** 32, 2 ** 64, HUGE, -HUGE]
        pairs = no_numbers() + [(f"number {k} of those beyond", number) for k, number in enumerate(beyond)]
        pairs += [("a colour", (1, 2, 3)), ("its text", "#000001"), ("its figures", "66051")]
        for what, thing in pairs:
            with self.subTest(what=what):
                self.check_refused(BadColour, colour_by_number, thing)

    def test_no_colour(self):
        for what, thing in no_colours():
            with self.subTest(what=what):
                self.check_refused(BadColour, colour_number, thing)


class TestTexts(Case):

    def test_written_out(self):
        for colour, text in [((0, 0, 0), "#000000"), ((255, 255, 255), "#ffffff"), ((1, 35, 69), "#012345"),
                             ((103, 137, 171), "#6789ab"), ((205, 239, 0), "#cdef00"), ((0, 0, 1), "#000001"),
                             ((1, 0, 0), "#010000"), ((0, 16, 0), "#001000"), ((10, 11, 12), "#0a0b0c")]:
            with self.subTest(text=text):
                self.check_told(text, colour_text, colour)
                self.check_told(colour, colour_of_text, text)

    def test_there_and_back(self):
        for colour in colours():
            due = "#" + "".join(format(part, "02x") for part in colour)
            self.check_same(colour_text(colour), due)
            self.check_same(colour_of_text(due), colour)

    def test_every_sign_at_every_place(self):
        for place in range(7):
            for code in list(range(32, 127)) + [9, 10]:
                sign = chr(code)
                text = "#12ab90"[:place] + sign + "#12ab90"[place + 1:]
                with self.subTest(text=text):
                    if sign == "#" and place == 0 or sign in "0123456789abcdef" and place > 0:
                        self.check_same(colour_of_text(text), tuple(int(text[k:k + 2], 16) for k in (1, 3, 5)))
                    elif sign != "%":
                        self.check_refused(BadColour, colour_of_text, text)

    def test_no_text_of_a_colour(self):
        texts = ["", "#", "#0", "#00000", "#0000000", "000000", "0000000", "0#00000", "000000#", "##00000", "##000000",
                 "#ABCDEF", "#abcdeF", "#Abcdef", "#FFFFFF", "#00000g", "#g00000", "#0x1234", "0x12345", "#-12345",
                 "#+12345", "#1_2345", "#12_345", " #12345", "#12345 ", " #123456", "#123456 ", "# 12345", "#123 56",
                 "#12345\t", "\t#123456", "#123456\t", "#123456\n", "\n#123456", "#12345\n", "#123\n56", "#\n12345",
                 "#fff", "#ffff", "#ffffffff", "#1234.5", "#12345h", "rgb", "(1, 2, 3)", "#" * 7, "#0" * 7, "#" + "0" * 4099]
        for text in texts:
            with self.subTest(text=text[:12]):
                self.check_refused(BadColour, colour_of_text, text)

    def test_what_is_no_text(self):
        pairs = odd_things() + [("a number", 123456), ("a colour", (1, 2, 3)), ("a list of signs", list("#123456"))]
        pairs += [("a tuple of signs", tuple("#123456")), ("bytes of signs", b"#123456"), ("a text in a list", ["#123456"])]
        pairs += [("seven numbers", [1, 2, 3, 4, 5, 6, 7]), ("an empty list", []), ("a number of seven", 1234567)]
        for what, thing in pairs:
            with self.subTest(what=what):
                self.check_refused(BadColour, colour_of_text, thing)

    def test_no_colour(self):
        for what, thing in no_colours():
            with self.subTest(what=what):
                self.check_refused(BadColour, colour_text, thing)


class TestApart(Case):

    def test_written_out(self):
        self.check_told(0, apart, (0, 0, 0), (0, 0, 0))
        self.check_told(0, apart, (1, 2, 3), (1, 2, 3))
        self.check_told(1, apart, (1, 2, 3), (1, 2, 4))
        self.check_told(14, apart, (0, 0, 0), (1, 2, 3))
        self.check_told(50, apart, (10, 20, 30), (13, 16, 25))
        self.check_told(65025, apart, (255, 0, 0), (0, 0, 0))
        self.check_told(195075, apart, (0, 0, 0), (255, 255, 255))

    def test_each_part_counts(self):
        for place in range(3):
            other = [7, 7, 7]
            other[place] = 12
            self.check_told(25, apart, (7, 7, 7), tuple(other))
            self.check_told(25, apart, tuple(other), (7, 7, 7))

    def test_either_way_about(self):
        few = [(red, green, blue) for red in [0, 9, 255] for green in [0, 128, 254] for blue in [3, 200]]
        for one in few:
            for other in few:
                due = sum(abs(a - b) * abs(a - b) for a, b in zip(one, other))
                self.check_same(apart(one, other), due)
                self.check_same(apart(other, one), due)

    def test_no_colour(self):
        for what, thing in no_colours():
            with self.subTest(what=what):
                self.check_refused(BadColour, apart, thing, (1, 2, 3))
                self.check_refused(BadColour, apart, (1, 2, 3), thing)
                self.check_refused(BadColour, apart, thing, thing)


class TestMixedColour(Case):

    def mean(self, numbers):
        """The whole number to which no other one is nearer, found by a search from above."""
        return min(range(255, -1, -1), key=lambda whole: abs(whole * len(numbers) - sum(numbers)))

    def test_one(self):
        for colour in [(0, 0, 0), (255, 255, 255), (1, 128, 254), (9, 8, 7)]:
            self.check_told(colour, mixed_colour, [colour])

    def test_two(self):
        self.check_told((2, 4, 6), mixed_colour, [(1, 3, 5), (3, 5, 7)])
        self.check_told((2, 3, 1), mixed_colour, [(1, 2, 0), (2, 3, 1)])
        self.check_told((2, 3, 1), mixed_colour, [(2, 3, 1), (1, 2, 0)])
        self.check_told((128, 1, 255), mixed_colour, [(0, 0, 254), (255, 1, 255)])
        self.check_told((128, 128, 128), mixed_colour, [(0, 0, 0), (255, 255, 255)])
        self.check_told((5, 5, 5), mixed_colour, [(5, 5, 5), (5, 5, 5)])

    def test_three_and_four(self):
        self.check_told((0, 1, 1), mixed_colour, [(0, 1, 1), (0, 1, 1), (1, 0, 1)])
        self.check_told((1, 0, 3), mixed_colour, [(0, 0, 3), (1, 0, 3), (1, 1, 4)])
        self.check_told((0, 1, 1), mixed_colour, [(0, 0, 0), (0, 0, 1), (0, 1, 1), (1, 1, 1)])
        self.check_told((254, 255, 255), mixed_colour, [(254, 255, 255), (254, 255, 254), (254, 254, 255), (255, 254, 255)])

    def test_all_pairs_of_a_part(self):
        for one in range(0, 256, 5):
            for other in range(0, 256, 3):
                due = (one + other + 1) // 2
                self.check_same(mixed_colour([(one, 0, 7), (other, 255, 7)]), (due, 128, 7))

    def test_many(self):
        for many in [3, 4, 5, 7, 10, 100, 575, 576]:
            given = [(k * 37 % 256, k * k % 256, (k * 91 + 5) % 256) for k in range(many)]
            due = tuple(self.mean([colour[part] for colour in given]) for part in range(3))
            with self.subTest(many=many):
                self.check_told(due, mixed_colour, given)

    def test_just_in_the_midst_of_many(self):
        for many in [2, 4, 6, 100, 576]:
            half = many // 2
            self.check_told((1, 10, 255), mixed_colour, [(0, 9, 254)] * half + [(1, 10, 255)] * half)
            self.check_told((0, 9, 254), mixed_colour, [(0, 9, 254)] * (half + 1) + [(1, 10, 255)] * (half - 1))

    def test_how_many(self):
        self.check_told((3, 4, 5), mixed_colour, [(3, 4, 5)] * 576)
        for many in [0, 577, 578, 1000, 1152]:
            with self.subTest(many=many):
                self.check_refused(BadColour, mixed_colour, [(3, 4, 5)] * many)

    def test_no_list(self):
        pairs = odd_things() + [("a colour", (1, 2, 3)), ("a tuple of colours", ((1, 2, 3), (4, 5, 6))), ("a number", 1)]
        pairs += [("a text", "#123456"), ("a list of texts", ["#123456"]), ("parts", [1, 2, 3]), ("lists", [[1, 2, 3]])]
        pairs += [("a dict of colours", {(1, 2, 3): (1, 2, 3)}), ("a set of colours", {(1, 2, 3)}), ("no text", "")]
        pairs += [("a list of lists of colours", [[(1, 2, 3)]]), ("an empty list in it", [[]]), ("no tuple", ())]
        for what, thing in pairs:
            with self.subTest(what=what):
                self.check_refused(BadColour, mixed_colour, thing)

    def test_a_thing_that_is_no_colour_at_any_place(self):
        for what, thing in no_colours():
            for place in range(3):
                given = [(1, 2, 3), (4, 5, 6), (7, 8, 9)]
                given[place] = thing
                with self.subTest(what=what, place=place):
                    self.check_refused(BadColour, mixed_colour, given)
            self.check_refused(BadColour, mixed_colour, [thing])
            self.check_refused(BadColour, mixed_colour, [(1, 2, 3)] * 575 + [thing])

    def test_the_list_stays(self):
        given = [(9, 9, 9), (1, 1, 1), (5, 5, 5)]
        mixed_colour(given)
        self.assertEqual(given, [(9, 9, 9), (1, 1, 1), (5, 5, 5)])


if __name__ == "__main__":
    unittest.main()
