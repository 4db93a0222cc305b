"""Packs (8), and how short they may be; what is refused and kept (1)."""

import itertools
import unittest

from cellfolio.errors import BadCell, BadPack
from cellfolio.packs import pack_prices, packed, unpacked
from tests.things import Case, HUGE, no_cells, no_lists_of_cells, no_numbers, odd_texts, odd_things

# Packs and the cells that they come to, written out by hand.
EXAMPLES = [
    ([], []),
    ([0, 5], [5]),
    ([0, 0], [0]),
    ([0, 15], [15]),
    ([1, 5, 6], [5, 6]),
    ([15] + list(range(16)), list(range(16))),
    ([16, 7], [7, 7]),
    ([17, 7], [7, 7, 7]),
    ([31, 7], [7] * 17),
    ([31, 15], [15] * 17),
    ([16, 0, 0, 9], [0, 0, 9]),
    ([0, 9, 16, 0], [9, 0, 0]),
    ([2, 1, 2, 3, 18, 4, 0, 1], [1, 2, 3, 4, 4, 4, 4, 1]),
    # The same cells by packs that are not the least.
    ([0, 7, 0, 7, 0, 7], [7, 7, 7]),
    ([16, 7, 0, 7], [7, 7, 7]),
    ([2, 7, 7, 7], [7, 7, 7]),
]


def read(numbers):
    """The cells that a list of few numbers from 0 on comes to; None where it is no pack."""
    if not numbers:
        return []
    head = numbers[0]
    behind = numbers[1:head + 2] if head < 16 else numbers[1:2]
    rest = read(numbers[1 + len(behind):])
    if head > 31 or len(behind) < (head + 1 if head < 16 else 1) or max(behind) > 15 or rest is None:
        return None
    return (behind if head < 16 else behind * (head - 14)) + rest


def made_cells(many, step):
    """So many cells, runs of about that length among them, and others."""
    return [(place // step * 7 + (place % 11 == 0) * place) % 16 for place in range(many)]


def prices_by_hand(cells):
    """How short a pack may be from each place on, each step tried by itself."""
    prices = [0]
    for start in range(len(cells) - 1, -1, -1):
        ways = []
        for end in range(start + 1, min(start + 17, len(cells)) + 1):
            part = cells[start:end]
            if len(part) <= 16:
                ways.append(1 + len(part) + prices[end - start - 1])
            if len(part) >= 2 and len(set(part)) == 1:
                ways.append(2 + prices[end - start - 1])
        prices.insert(0, min(ways))
    return prices


def packs_of(many, cells):
    """All lists of so many numbers that come to cells out of these, as pairs (numbers, cells)."""
    if many == 0:
        return [([], [])]
    found = []
    for head in range(32):
        behind = head + 1 if head < 16 else 1
        if behind < many:
            for part in itertools.product(cells, repeat=behind):
                told = list(part) if head < 16 else list(part) * (head - 14)
                found += [([head] + list(part) + rest, told + more) for rest, more in packs_of(many - 1 - behind, cells)]
    return found


def no_packs():
    """Pairs (what it is, the thing): none is a pack."""
    pairs = odd_things() + odd_texts() + [("a number", 0), ("a tuple", (0, 1)), ("an empty tuple", ()), ("a dict", {0: 1})]
    pairs += [("a text", "01"), ("a list of lists", [[0, 1]]), ("a range", range(2)), ("a list of a tuple", [(0, 1)])]
    for head in range(32):
        behind = head + 1 if head < 16 else 1
        for many in range(behind):
            pairs += [(f"{many} behind {head}", [head] + [0] * many), (f"{many} behind {head} at the end", [0, 3, head] + [0] * many)]
    for what, thing in no_numbers() + [("-1", -1), ("-2", -2), ("32", 32), ("33", 33), ("huge", HUGE), ("below", -HUGE)]:
        pairs += [("a head: " + what, [thing]), ("a head with cells: " + what, [thing, 1]), (what, [thing] + [1] * 33)]
        pairs += [("a second head: " + what, [0, 1, thing, 1]), ("a last head: " + what, [16, 1, thing])]
    for what, thing in no_cells():
        pairs += [("a cell: " + what, [0, thing]), ("a cell of three: " + what, [2, 1, thing, 1])]
        pairs += [("a last cell: " + what, [2, 1, 1, thing]), ("a cell repeated: " + what, [16, thing])]
        pairs += [("at the end: " + what, [0, 1, 31, thing]), ("ahead: " + what, [0, thing, 16, 1])]
    pairs += [("577 by 17", [31, 1] * 33 + [30, 2]), ("578 by 17", [31, 1] * 34), ("577 by 16", ([15] + [1] * 16) * 36 + [0, 2])]
    pairs += [("577 by one", [0, 1] * 577), ("592 by 16", ([15] + [1] * 16) * 37), ("575 and two", [31, 1] * 33 + [28, 2, 16, 3])]
    pairs += [("a great many", [31, 1] * 2000), ("577, and what is none", [31, 1] * 34 + [None])]
    return pairs


class TestInterface(Case):

    def test_arguments(self):
        self.check_arguments(unpacked, ["numbers"])
        self.check_arguments(packed, ["cells"])
        self.check_arguments(pack_prices, ["cells"])


class TestUnpacked(Case):

    def test_written_out(self):
        for numbers, cells in EXAMPLES:
            with self.subTest(numbers=numbers):
                self.check_told(list(cells), unpacked, list(numbers))

    def test_every_head(self):
        for head in range(16):
            cells = [(3 * place + head) % 16 for place in range(head + 1)]
            self.check_told(list(cells), unpacked, [head] + cells)
            self.check_told([1] + cells + [2, 2], unpacked, [0, 1, head] + cells + [16, 2])
        for head in range(16, 32):
            self.check_told([9] * (head - 14), unpacked, [head, 9])
            self.check_told([1] + [9] * (head - 14) + [2, 2], unpacked, [0, 1, head, 9, 16, 2])

    def test_every_cell(self):
        for cell in range(16):
            self.check_told([cell], unpacked, [0, cell])
            self.check_told([cell] * 2, unpacked, [16, cell])

    def test_all_short_lists(self):
        for many in range(6):
            for numbers in itertools.product([0, 1, 2, 15, 16, 31, 32], repeat=many):
                due = read(list(numbers))
                with self.subTest(numbers=numbers):
                    if due is None:
                        self.check_refused(BadPack, unpacked, list(numbers))
                    else:
                        self.assertEqual(unpacked(list(numbers)), due)

    def test_just_576_cells(self):
        self.check_told([1] * 561 + [2] * 15, unpacked, [31, 1] * 33 + [29, 2])
        self.check_told([1] * 576, unpacked, ([15] + [1] * 16) * 36)
        self.check_told([1, 2] * 288, unpacked, [0, 1, 0, 2] * 288)
        self.check_told([3] * 576, unpacked, [16, 3] * 288)

    def test_no_packs(self):
        for what, thing in no_packs():
            with self.subTest(what=what):
                self.check_refused(BadPack, unpacked, thing)


class TestPackPrices(Case):

    def test_written_out(self):
        self.check_told([0], pack_prices, [])
        self.check_told([2, 0], pack_prices, [5])
        self.check_told([2, 2, 0], pack_prices, [5, 5])
        self.check_told([3, 2, 0], pack_prices, [5, 6])
        self.check_told([4, 3, 2, 0], pack_prices, [5, 6, 7])
        self.check_told([4, 2, 2, 0], pack_prices, [5, 7, 7])
        self.check_told([4, 3, 2, 0], pack_prices, [7, 7, 5])
        self.check_told([5, 4, 3, 2, 0], pack_prices, [1, 7, 7, 1])

    def test_bounds_of_a_head(self):
        self.check_told([2] * 17 + [0], pack_prices, [7] * 17)
        self.check_told([4] + [2] * 17 + [0], pack_prices, [7] * 18)
        self.check_told(list(range(17, 1, -1)) + [0], pack_prices, list(range(16)))
        self.check_told([19] + list(range(17, 1, -1)) + [0], pack_prices, [15] + list(range(16)))
        self.check_told([4] * 17 + [2] * 17 + [0], pack_prices, [7] * 34)
        self.check_told([6] + [4] * 17 + [2] * 17 + [0], pack_prices, [7] * 35)

    def test_held_against_each_step(self):
        for many in range(0, 60):
            for step in [1, 2, 3, 5, 20]:
                cells = made_cells(many, step)
                with self.subTest(many=many, step=step):
                    self.check_told(prices_by_hand(cells), pack_prices, list(cells))

    def test_of_all_lists_of_few_cells(self):
        for many in range(7):
            for cells in itertools.product(range(3), repeat=many):
                self.assertEqual(pack_prices(list(cells)), prices_by_hand(list(cells)))

    def test_576_cells(self):
        for step in [1, 2, 3, 17, 18, 100, 1000]:
            cells = made_cells(576, step)
            self.check_told(prices_by_hand(cells), pack_prices, list(cells))
        self.check_same(pack_prices([1] * 576)[0], 68)
        self.check_same(pack_prices([place % 16 for place in range(576)])[0], 612)

    def test_refused(self):
        for many in [577, 578, 1000]:
            self.check_refused(BadCell, pack_prices, [1] * many)
        for what, thing in no_lists_of_cells():
            with self.subTest(what=what):
                self.check_refused(BadCell, pack_prices, thing)


class TestPacked(Case):

    def check_packed(self, cells, least):
        """It comes to the cells, is as short as that, and is a list of its own."""
        numbers = packed(list(cells))
        self.assertIs(type(numbers), list)
        self.assertEqual({type(number) for number in numbers} - {int}, set())
        self.assertEqual(unpacked(numbers), list(cells))
        self.assertEqual(len(numbers), least)
        self.check_told(list(numbers), packed, list(cells))

    def test_written_out(self):
        self.check_told([], packed, [])
        self.check_told([0, 5], packed, [5])
        self.check_told([16, 5], packed, [5, 5])
        self.check_told([31, 5], packed, [5] * 17)
        self.check_told([1, 5, 6], packed, [5, 6])
        self.check_told([15] + list(range(16)), packed, list(range(16)))

    def test_no_shorter_list_comes_to_them(self):
        # Of two cells alone: all packs of up to seven numbers, shortest first.
        least = {}
        for many in range(8):
            for numbers, cells in packs_of(many, [3, 8]):
                least.setdefault(tuple(cells), many)
        for many in range(7):
            for cells in itertools.product([3, 8], repeat=many):
                with self.subTest(cells=cells):
                    if cells in least:
                        self.check_packed(cells, least[cells])
                    else:
                        self.assertGreater(len(packed(list(cells))), 7)
        for cells in sorted(least, key=len)[:3000:7]:
            self.check_packed(cells, least[cells])

    def test_held_against_the_prices(self):
        for many in range(0, 60):
            for step in [1, 2, 3, 5, 20]:
                cells = made_cells(many, step)
                with self.subTest(many=many, step=step):
                    self.check_packed(cells, prices_by_hand(cells)[0])
                    self.check_packed(cells, pack_prices(cells)[0])

    def test_all_lists_of_few_cells(self):
        for many in range(7):
            for cells in itertools.product(range(3), repeat=many):
                self.check_packed(cells, prices_by_hand(list(cells))[0])

    def test_576_cells(self):
        for step in [1, 2, 3, 17, 18, 100, 1000]:
            cells = made_cells(576, step)
            self.check_packed(cells, prices_by_hand(cells)[0])
        self.check_packed([1] * 576, 68)
        self.check_packed([place % 16 for place in range(576)], 612)

    def test_refused(self):
        for many in [577, 578, 1000]:
            self.check_refused(BadCell, packed, [1] * many)
            self.check_refused(BadCell, packed, [place % 16 for place in range(many)])
        for what, thing in no_lists_of_cells():
            with self.subTest(what=what):
                self.check_refused(BadCell, packed, thing)
        for place in [0, 287, 575]:
            for thing in [-1, 16, True, None]:
                self.check_refused(BadCell, packed, [1] * place + [thing] + [1] * (575 - place))


if __name__ == "__main__":
    unittest.main()
