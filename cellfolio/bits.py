"""The bits of whole numbers from 0 on, by their places: the lowest bit is at place 0."""


def bit_at(number, place):
    return ((number >> place) & 1) == 1


def with_bit(number, place, on=True):
    bit = 1 << place
    if on:
        return number | bit
    return (number | bit) ^ bit


def places_of_bits(number):
    return [place for place in range(number.bit_length()) if bit_at(number, place)]


def many_bits(number):
    return len(places_of_bits(number))


def turned_bits(number, wide):
    turned = 0
    for place in range(wide):
        if bit_at(number, wide - 1 - place):
            turned = with_bit(turned, place)
    return turned
