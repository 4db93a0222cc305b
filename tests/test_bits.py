"""The bit at a place of a number (4)."""

import unittest

from cellfolio.bits import bit_at, many_bits, places_of_bits, turned_bits, with_bit
from tests.things import Case

NUMBERS = list(range(70)) + [
    255, 256, 2 ** 31, 2 ** 32 - 1, 2 ** 53 + 1, 2 ** 63 - 1, 2 ** 63, 2 ** 64 - 1, 2 ** 64, 2 ** 64 + 1,
    2 ** 100 - 1, 2 ** 100, 2 ** 101 - 1, 2 ** 100 + 2 ** 50 + 1, int("10" * 50, 2), int("01" * 50, 2),
    0x123456789abcdef0123456789, 3 ** 63,
]


def figures(number):
    """The bits from the lowest on, as a text of 0 and 1."""
    return format(number, "b")[::-1] if number else ""


class TestInterface(Case):

    def test_arguments(self):
        self.check_arguments(bit_at, ["number", "place"])
        self.check_arguments(with_bit, ["number", "place", "on"], {"on": True})
        self.check_arguments(many_bits, ["number"])
        self.check_arguments(places_of_bits, ["number"])
        self.check_arguments(turned_bits, ["number", "wide"])


class TestBitAt(Case):

    def test_every_place(self):
        for number in NUMBERS:
            signs = figures(number).ljust(101, "0")
            for place in range(101):
                with self.subTest(number=number, place=place):
                    self.assertIs(bit_at(number, place), signs[place] == "1")

    def test_written_out(self):
        self.assertIs(bit_at(0, 0), False)
        self.assertIs(bit_at(1, 0), True)
        self.assertIs(bit_at(1, 1), False)
        self.assertIs(bit_at(6, 0), False)
        self.assertIs(bit_at(6, 2), True)
        self.assertIs(bit_at(2 ** 100, 100), True)
        self.assertIs(bit_at(2 ** 100, 99), False)
        self.assertIs(bit_at(2 ** 130, 130), True)


class TestWithBit(Case):

    def test_every_place(self):
        for number in NUMBERS:
            for place in range(101):
                signs = figures(number).ljust(101, "0")
                standing = int((signs[:place] + "1" + signs[place + 1:])[::-1], 2)
                gone = int((signs[:place] + "0" + signs[place + 1:])[::-1], 2)
                with self.subTest(number=number, place=place):
                    self.check_same(with_bit(number, place), standing)
                    self.check_same(with_bit(number, place, True), standing)
                    self.check_same(with_bit(number, place, False), gone)

    def test_written_out(self):
        self.check_same(with_bit(0, 0), 1)
        self.check_same(with_bit(1, 0), 1)
        self.check_same(with_bit(1, 0, False), 0)
        self.check_same(with_bit(0, 0, False), 0)
        self.check_same(with_bit(5, 1), 7)
        self.check_same(with_bit(5, 2, False), 1)
        self.check_same(with_bit(5, 1, False), 5)
        self.check_same(with_bit(number=0, place=100, on=True), 2 ** 100)
        self.check_same(with_bit(2 ** 100 + 1, 100, False), 1)


class TestManyBitsAndPlaces(Case):

    def test_numbers(self):
        for number in NUMBERS:
            places = [place for place, sign in enumerate(figures(number)) if sign == "1"]
            with self.subTest(number=number):
                self.check_same(many_bits(number), len(places))
                self.check_told(places, places_of_bits, number)

    def test_written_out(self):
        self.check_same(many_bits(0), 0)
        self.check_same(many_bits(1), 1)
        self.check_same(many_bits(255), 8)
        self.check_same(many_bits(2 ** 101 - 1), 101)
        self.check_told([], places_of_bits, 0)
        self.check_told([0], places_of_bits, 1)
        self.check_told([0, 2, 3], places_of_bits, 13)
        self.check_told([0, 64, 100], places_of_bits, 2 ** 100 + 2 ** 64 + 1)
        self.check_told(list(range(101)), places_of_bits, 2 ** 101 - 1)


class TestTurnedBits(Case):

    def test_every_small_number(self):
        for wide in range(1, 8):
            for number in range(2 ** wide):
                due = int(format(number, "b").zfill(wide)[::-1], 2)
                with self.subTest(number=number, wide=wide):
                    self.check_same(turned_bits(number, wide), due)

    def test_every_width(self):
        for wide in range(1, 101):
            for number in NUMBERS:
                if number < 2 ** wide:
                    due = int(format(number, "b").zfill(wide)[::-1], 2)
                    with self.subTest(number=number, wide=wide):
                        self.check_same(turned_bits(number, wide), due)
                        self.check_same(turned_bits(due, wide), number)

    def test_written_out(self):
        self.check_same(turned_bits(0, 1), 0)
        self.check_same(turned_bits(1, 1), 1)
        self.check_same(turned_bits(1, 2), 2)
        self.check_same(turned_bits(3, 5), 24)
        self.check_same(turned_bits(1, 100), 2 ** 99)
        self.check_same(turned_bits(2 ** 99, 100), 1)
        self.check_same(turned_bits(2 ** 100 - 1, 100), 2 ** 100 - 1)


if __name__ == "__main__":
    unittest.main()
