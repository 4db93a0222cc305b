"""Packs: lists of cells made short as heads with cells behind them, as few numbers as can be."""

from cellfolio.errors import BadPack
from cellfolio.pictures import is_list_of_cells, is_whole_within, need_cells
from cellfolio.runs import MOST_LISTED

MOST_HEAD = 31
# From this head on one cell stands behind it, and comes several times.
FIRST_REPEAT = 16
MOST_REPEATS = 17


def cells_by_head(head):
    """How many cells it comes to."""
    return head + 1 if head < FIRST_REPEAT else head - 14


def cells_behind(head):
    """How many cells stand behind it in the pack."""
    return head + 1 if head < FIRST_REPEAT else 1


def need_of_pack(good):
    if not good:
        raise BadPack("this is no pack")


def unpacked(numbers):
    need_of_pack(isinstance(numbers, list))
    cells = []
    place = 0
    while place < len(numbers):
        head = numbers[place]
        need_of_pack(is_whole_within(head, 0, MOST_HEAD))
        behind = numbers[place + 1:place + 1 + cells_behind(head)]
        need_of_pack(len(behind) == cells_behind(head) and is_list_of_cells(behind))
        cells.extend(behind if head < FIRST_REPEAT else behind * cells_by_head(head))
        need_of_pack(len(cells) <= MOST_LISTED)
        place += 1 + len(behind)
    return cells


def many_alike(cells, place):
    """How many cells from there on are like the one there, as far as a head may tell of them."""
    many = 1
    while many < MOST_REPEATS and place + many < len(cells) and cells[place + many] == cells[place]:
        many += 1
    return many


def heads_at(cells, place):
    """The heads by which a pack of the cells from there on may begin."""
    left = len(cells) - place
    alike = many_alike(cells, place)
    return [head for head in range(MOST_HEAD + 1) if cells_by_head(head) <= (left if head < FIRST_REPEAT else alike)]


def price_by(head, place, prices):
    return 1 + cells_behind(head) + prices[place + cells_by_head(head)]


def pack_prices(cells):
    need_cells(cells, MOST_LISTED)
    prices = [0] * (len(cells) + 1)
    # From the back on: a price stands on those of the places behind it.
    for place in range(len(cells) - 1, -1, -1):
        prices[place] = min([price_by(head, place, prices) for head in heads_at(cells, place)])
    return prices


def packed(cells):
    prices = pack_prices(cells)
    numbers = []
    place = 0
    while place < len(cells):
        heads = [head for head in heads_at(cells, place) if price_by(head, place, prices) == prices[place]]
        numbers.append(heads[0])
        numbers.extend(cells[place:place + cells_behind(heads[0])])
        place += cells_by_head(heads[0])
    return numbers
