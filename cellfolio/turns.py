"""Pictures turned, mirrored and crossed: the eight ways, and how they follow one another."""

from cellfolio.errors import BadSize
from cellfolio.pictures import copied_rows, is_whole_within, need_picture
from cellfolio.rows import text_of_picture

MANY_WAYS = 8
# From this way on left and right are exchanged ahead of the turns.
FIRST_MIRRORED = 4
MANY_TURNS = 4


def mirrored(picture):
    need_picture(picture)
    return [list(reversed(row)) for row in picture]


def flipped(picture):
    need_picture(picture)
    return [list(row) for row in reversed(picture)]


def crossed(picture):
    need_picture(picture)
    return [[row[x] for row in picture] for x in range(len(picture[0]))]


def turned(picture, times=1):
    need_picture(picture)
    rows = copied_rows(picture)
    for quarter in range(times % MANY_TURNS):
        # The left column read from below: flipped, it is read from above, and crossed, it is the top row.
        rows = crossed(flipped(rows))
    return rows


def need_way(way):
    if not is_whole_within(way, 0, MANY_WAYS - 1):
        raise BadSize("there is no such way")


def is_mirrored(way):
    return way >= FIRST_MIRRORED


def by_way(picture, way):
    need_picture(picture)
    need_way(way)
    if is_mirrored(way):
        return turned(mirrored(picture), way)
    return turned(picture, way)


def alike_ways(picture):
    need_picture(picture)
    return [way for way in range(MANY_WAYS) if by_way(picture, way) == picture]


def least_way(picture):
    texts = [text_of_picture(by_way(picture, way)) for way in range(MANY_WAYS)]
    # The first place of the least text is the least way that leads to it.
    return texts.index(min(texts))


def way_of(turns, exchanged):
    if exchanged:
        return FIRST_MIRRORED + turns % MANY_TURNS
    return turns % MANY_TURNS


def way_behind(one, other):
    need_way(one)
    need_way(other)
    # Exchanging left and right behind some turns is the same as ahead of as many turns the other way round.
    turns = other - one if is_mirrored(other) else other + one
    return way_of(turns, is_mirrored(one) != is_mirrored(other))


def way_back(way):
    need_way(way)
    if is_mirrored(way):
        return way
    return way_of(-way, False)
