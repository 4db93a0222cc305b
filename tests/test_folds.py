"""Folded rows (9), and back again; what is refused and kept (1)."""

import itertools
import unittest

from cellfolio.errors import BadPicture, BadRule
from cellfolio.folds import best_rules, folded_picture, folded_row, unfolded_picture, unfolded_row
from tests.things import Case, HUGE, made_picture, no_numbers, no_pictures, odd_texts, odd_things, row_twice

SIZES = [(1, 1), (1, 2), (2, 1), (3, 2), (2, 3), (5, 5), (1, 24), (24, 1), (24, 23), (23, 24), (24, 24)]
ROW = [3, 5, 5, 0, 15]
ABOVE = [1, 5, 9, 12, 15]
# ROW folded by each rule, with ABOVE and with nothing above, written out by hand.
WITH = [
    [3, 5, 5, 0, 15],
    [3, 2, 0, 11, 15],
    [2, 0, 12, 4, 0],
    [2, 14, 12, 8, 12],
    [2, 0, 12, 12, 0],
]
WITHOUT = [
    [3, 5, 5, 0, 15],
    [3, 2, 0, 11, 15],
    [3, 5, 5, 0, 15],
    [3, 2, 0, 11, 15],
    [3, 5, 5, 0, 15],
]


def no_rules():
    """Pairs (what it is, the thing): none is a rule from 0 to 4."""
    beyond = [("-1", -1), ("5", 5), ("6", 6), ("-5", -5), ("15", 15), ("huge", HUGE), ("huge below", -HUGE)]
    return no_numbers() + beyond


def folded_by_hand(row, above, rule):
    told = []
    for x, cell in enumerate(row):
        left = ([0] + row)[x]
        over = above[x] if above else 0
        corner = ([0] + above)[x] if above else 0
        told.append([cell, (cell - left) % 16, (cell - over) % 16, (cell - left - over + corner) % 16, cell ^ over][rule])
    return told


def picture_by_hand(picture, rules):
    return [folded_by_hand(row, picture[y - 1] if y else None, rules[y]) for y, row in enumerate(picture)]


def many_runs(row):
    return len(list(itertools.groupby(row)))


def best_by_hand(picture):
    told = []
    for y, row in enumerate(picture):
        above = picture[y - 1] if y else None
        told.append(min((many_runs(folded_by_hand(row, above, rule)), rule) for rule in range(5))[1])
    return told


def mixed_rules(high, start):
    return [(start + 3 * y + y // 5) % 5 for y in range(high)]


class TestInterface(Case):

    def test_arguments(self):
        self.check_arguments(folded_row, ["row", "above", "rule"])
        self.check_arguments(unfolded_row, ["row", "above", "rule"])
        self.check_arguments(folded_picture, ["picture", "rules"])
        self.check_arguments(unfolded_picture, ["rows", "rules"])
        self.check_arguments(best_rules, ["picture"])


class TestRows(Case):

    def test_written_out(self):
        for rule in range(5):
            with self.subTest(rule=rule):
                self.check_told(WITH[rule], folded_row, list(ROW), list(ABOVE), rule)
                self.check_told(WITHOUT[rule], folded_row, list(ROW), None, rule)
                self.check_told(list(ROW), unfolded_row, list(WITH[rule]), list(ABOVE), rule)
                self.check_told(list(ROW), unfolded_row, list(WITHOUT[rule]), None, rule)

    def test_left_is_the_cell_as_it_was(self):
        self.check_told([1, 1, 1, 1], folded_row, [1, 2, 3, 4], None, 1)
        self.check_told([1, 2, 3, 4], unfolded_row, [1, 1, 1, 1], None, 1)
        self.check_told([0, 15, 15, 2], folded_row, [0, 15, 14, 0], None, 1)
        self.check_told([1, 0, 0], folded_row, [2, 4, 7], [1, 3, 6], 3)
        self.check_told([2, 4, 7], unfolded_row, [1, 0, 0], [1, 3, 6], 3)

    def test_one_cell_by_every_cell(self):
        for cell in range(16):
            for over in range(16):
                for rule, due in enumerate([cell, cell, (cell - over) % 16, (cell - over) % 16, cell ^ over]):
                    self.check_told([due], folded_row, [cell], [over], rule)
                    self.check_told([cell], unfolded_row, [due], [over], rule)
            for rule in range(5):
                self.check_told([cell], folded_row, [cell], None, rule)
                self.check_told([cell], unfolded_row, [cell], None, rule)

    def test_all_rows_of_few_cells(self):
        for row in itertools.product([0, 1, 8, 15], repeat=3):
            for above in list(itertools.product([0, 1, 8, 15], repeat=3)) + [None]:
                above = list(above) if above else None
                for rule in range(5):
                    due = folded_by_hand(list(row), above, rule)
                    self.assertEqual(folded_row(list(row), above, rule), due)
                    self.assertEqual(unfolded_row(due, above, rule), list(row))

    def test_back_again(self):
        for wide in range(1, 25):
            above, row = made_picture(wide, 7)[5:]
            for rule in range(5):
                for over in [above, None]:
                    due = folded_by_hand(row, over, rule)
                    with self.subTest(wide=wide, rule=rule):
                        self.check_told(due, folded_row, list(row), list(over) if over else None, rule)
                        self.check_told(list(row), unfolded_row, list(due), list(over) if over else None, rule)

    def test_nothing_above_is_as_noughts_above(self):
        for rule in range(5):
            self.assertEqual(folded_row(ROW, None, rule), folded_row(ROW, [0] * 5, rule))
            self.assertEqual(unfolded_row(ROW, None, rule), unfolded_row(ROW, [0] * 5, rule))

    def test_one_list_as_both(self):
        row = list(ROW)
        self.assertEqual(folded_row(row, row, 2), [0] * 5)
        self.assertEqual(folded_row(row, row, 4), [0] * 5)
        self.assertEqual(folded_row(row, row, 3), [0] * 5)
        self.assertEqual(row, ROW)

    def test_no_rule(self):
        for what, thing in no_rules():
            for above in [None, list(ABOVE)]:
                with self.subTest(what=what):
                    self.check_refused(BadRule, folded_row, list(ROW), above, thing)
                    self.check_refused(BadRule, unfolded_row, list(ROW), above, thing)
                    self.check_refused(BadRule, folded_row, [0], None, thing)
                    self.check_refused(BadRule, unfolded_row, [0], None, thing)


class TestPictures(Case):

    def test_written_out(self):
        picture = [[1, 2], [3, 5], [3, 5]]
        for rules, due in [([0, 0, 0], [[1, 2], [3, 5], [3, 5]]), ([1, 1, 1], [[1, 1], [3, 2], [3, 2]]),
                           ([2, 2, 2], [[1, 2], [2, 3], [0, 0]]), ([3, 3, 3], [[1, 1], [2, 1], [0, 0]]),
                           ([4, 4, 4], [[1, 2], [2, 7], [0, 0]]), ([1, 4, 2], [[1, 1], [2, 7], [0, 0]])]:
            with self.subTest(rules=rules):
                self.check_told([list(row) for row in due], folded_picture, [list(row) for row in picture], list(rules))
                self.check_told([list(row) for row in picture], unfolded_picture, due, list(rules))

    def test_sizes(self):
        for wide, high in SIZES:
            for start in range(5):
                for rules in [[start] * high, mixed_rules(high, start)]:
                    due = picture_by_hand(made_picture(wide, high), rules)
                    with self.subTest(wide=wide, high=high, rules=rules):
                        self.check_told(due, folded_picture, made_picture(wide, high), list(rules))
                        self.check_told(made_picture(wide, high), unfolded_picture, due, list(rules))

    def test_all_rules_of_three_rows(self):
        for rules in itertools.product(range(5), repeat=3):
            folded = folded_picture(made_picture(4, 3), list(rules))
            self.assertEqual(folded, picture_by_hand(made_picture(4, 3), rules))
            self.assertEqual(unfolded_picture(folded, list(rules)), made_picture(4, 3))
            unfolded = unfolded_picture(made_picture(4, 3), list(rules))
            self.assertEqual(picture_by_hand(unfolded, rules), made_picture(4, 3))

    def test_a_row_that_stands_twice(self):
        self.check_told([[1, 2], [1, 2]], folded_picture, row_twice(), [0, 0])
        self.check_told([[1, 2], [0, 0]], folded_picture, row_twice(), [0, 2])
        self.check_told([[1, 2], [1, 2]], unfolded_picture, row_twice(), [0, 0])
        self.check_told([[1, 2], [2, 4]], unfolded_picture, row_twice(), [0, 2])

    def test_no_picture(self):
        for what, thing in no_pictures():
            for rules in [[0], [0, 0], [], [5], None, (0,)]:
                with self.subTest(what=what, rules=rules):
                    self.check_refused(BadPicture, folded_picture, thing, rules)
                    self.check_refused(BadPicture, unfolded_picture, thing, rules)

    def test_too_few_or_too_many_rules(self):
        for high in [1, 2, 3, 23, 24]:
            for many in [0, 1, 2, 3, 4, 22, 23, 24, 25, 48]:
                for function in [folded_picture, unfolded_picture]:
                    if many != high:
                        self.check_refused(BadRule, function, made_picture(5, high), [0] * many)
        # As many as columns, not as rows.
        self.check_refused(BadRule, folded_picture, made_picture(3, 2), [0] * 3)
        self.check_refused(BadRule, unfolded_picture, made_picture(3, 2), [0] * 3)

    def test_no_list_of_rules(self):
        pairs = odd_things() + odd_texts() + [("a rule", 0), ("a tuple", (0, 0)), ("a dict", {0: 0, 1: 0}), ("a text", "00")]
        pairs += [("a tuple of one", (0,)), ("a range", range(2)), ("rules in a list", [[0, 0]]), ("twice so", [[0], [0]])]
        for what, thing in pairs:
            with self.subTest(what=what):
                for function in [folded_picture, unfolded_picture]:
                    self.check_refused(BadRule, function, made_picture(3, 2), thing)
                    self.check_refused(BadRule, function, [[0]], thing)

    def test_no_rule_at_any_place(self):
        for what, thing in no_rules():
            for place in range(3):
                rules = [1, 2, 3]
                rules[place] = thing
                with self.subTest(what=what, place=place):
                    self.check_refused(BadRule, folded_picture, made_picture(2, 3), rules)
                    self.check_refused(BadRule, unfolded_picture, made_picture(2, 3), rules)
        for place in range(24):
            rules = [0] * place + [5] + [0] * (23 - place)
            self.check_refused(BadRule, folded_picture, made_picture(24, 24), rules)
            self.check_refused(BadRule, unfolded_picture, made_picture(24, 24), rules)


class TestBestRules(Case):

    def test_each_rule_where_it_is_best(self):
        self.check_told([0], best_rules, [[7, 7, 7, 7]])
        self.check_told([1], best_rules, [[1, 2, 3, 4]])
        self.check_told([0, 2], best_rules, [[1, 3, 4, 8], [2, 4, 5, 9]])
        self.check_told([1, 3], best_rules, [[2, 4, 1, 12], [0, 3, 1, 13]])
        self.check_told([0, 4], best_rules, [[1, 0, 1, 0], [0, 1, 0, 1]])

    def test_of_several_the_least(self):
        # One cell: one run by every rule.
        for cell in range(16):
            self.check_told([0], best_rules, [[cell]])
            self.check_told([0, 0, 0], best_rules, [[cell], [3], [cell]])
        # Like the row above: one run by 2, by 3 and by 4.
        self.check_told([1, 2], best_rules, [[1, 2, 4, 8], [1, 2, 4, 8]])
        self.check_told([0, 0], best_rules, [[7, 7, 7], [7, 7, 7]])
        # Nothing above: rules 2 and 4 do as 0 does, 3 as 1.
        self.check_told([0], best_rules, [[5, 5, 6, 6]])

    def test_one_row(self):
        for row in itertools.product([0, 1, 2, 15], repeat=4):
            self.check_told(best_by_hand([list(row)]), best_rules, [list(row)])

    def test_one_column(self):
        for high in range(1, 25):
            self.check_told([0] * high, best_rules, made_picture(1, high))

    def test_two_rows_of_few_cells(self):
        seen = {}
        for cells in itertools.product([0, 1, 2, 15], repeat=6):
            picture = [list(cells[:3]), list(cells[3:])]
            told = best_rules(picture)
            self.assertEqual(told, best_by_hand(picture))
            seen[told[1]] = True
        self.assertEqual(sorted(seen), [0, 1, 2, 3, 4])

    def test_sizes(self):
        for wide, high in SIZES:
            with self.subTest(wide=wide, high=high):
                self.check_told(best_by_hand(made_picture(wide, high)), best_rules, made_picture(wide, high))

    def test_a_row_that_stands_twice(self):
        self.check_told(best_by_hand([[1, 2], [1, 2]]), best_rules, row_twice())

    def test_no_picture(self):
        for what, thing in no_pictures():
            with self.subTest(what=what):
                self.check_refused(BadPicture, best_rules, thing)


if __name__ == "__main__":
    unittest.main()
