"""Runs (7), and their texts; what is refused and kept (1)."""

import itertools
import re
import unittest

from cellfolio.errors import BadCell, BadRuns
from cellfolio.runs import cells_by_runs, runs_by_text, runs_of, runs_text
from tests.things import Case, HUGE, no_cells, no_lists_of_cells, no_steps, odd_texts, odd_things

LETTERS = "abcdefghijklmnop"
# Runs, the cells that they come to, and their text, written out by hand.
EXAMPLES = [
    ([], [], ""),
    ([(1, 0)], [0], "a"),
    ([(1, 15)], [15], "p"),
    ([(2, 3)], [3, 3], "2d"),
    ([(1, 1), (1, 2), (1, 1)], [1, 2, 1], "bcb"),
    ([(3, 0), (1, 15), (2, 9)], [0, 0, 0, 15, 9, 9], "3ap2j"),
    ([(1, 7), (10, 8)], [7] + [8] * 10, "h10i"),
    ([(9, 5), (11, 4), (20, 5)], [5] * 9 + [4] * 11 + [5] * 20, "9f11e20f"),
    ([(100, 2), (101, 3)], [2] * 100 + [3] * 101, "100c101d"),
    ([(576, 6)], [6] * 576, "576g"),
    ([(575, 6), (1, 0)], [6] * 575 + [0], "575ga"),
    ([(1, 0), (575, 6)], [0] + [6] * 575, "a575g"),
]


def short_lists():
    """Lists of few cells, all that there are."""
    for many in range(7):
        for cells in itertools.product([0, 9, 15], repeat=many):
            yield list(cells)


def grouped(cells):
    return [(len(list(many)), cell) for cell, many in itertools.groupby(cells)]


def read(text):
    """The runs by a text; None where it is none."""
    parts = re.findall("([0-9]*)([a-p])", text)
    if "".join(figures + letter for figures, letter in parts) != text:
        return None
    if any(figures == "1" or figures.startswith("0") for figures, letter in parts):
        return None
    runs = [(int(figures or "1"), LETTERS.index(letter)) for figures, letter in parts]
    if any(one[1] == other[1] for one, other in zip(runs, runs[1:])):
        return None
    return runs if sum(run[0] for run in runs) <= 576 else None


def no_runs():
    """Pairs (what it is, the thing): none is a list of runs."""
    pairs = odd_things() + odd_texts() + [("a number", 1), ("a run", (1, 2)), ("a tuple of runs", ((1, 2), (1, 3)))]
    pairs += [("a text", "2a"), ("a list of texts", ["2a"]), ("a list of a list", [[1, 2]]), ("cells", [1, 2])]
    pairs += [("a list behind", [(1, 2), [1, 3]]), ("a list ahead", [[1, 2], (1, 3)]), ("a dict", {1: 2})]
    pairs += [("a tuple of none", [()]), ("of one", [(1,)]), ("of three", [(1, 2, 3)]), ("of one behind", [(1, 2), (1,)])]
    pairs += [("of three behind", [(1, 2), (1, 3, 1)]), ("of three ahead", [(1, 2, 1), (1, 3)]), ("a text", [(1, 2), "13"])]
    pairs += [("deeper", [[(1, 2)]]), ("in a tuple", [((1, 2),)]), ("two tuples", [((1, 2), (1, 3))])]
    for what, count in no_steps():
        pairs += [("count: " + what, [(count, 2)]), ("last count: " + what, [(1, 1), (1, 2), (count, 3)])]
        pairs += [("first count: " + what, [(count, 1), (1, 2)]), ("midst: " + what, [(1, 1), (count, 2), (1, 1)])]
    for what, cell in no_cells():
        pairs += [("cell: " + what, [(1, cell)]), ("last cell: " + what, [(1, 1), (1, 2), (2, cell)])]
        pairs += [("first cell: " + what, [(2, cell), (1, 2)]), ("midst: " + what, [(1, 1), (1, cell), (1, 1)])]
    for cell in range(16):
        pairs += [(f"twice {cell}", [(1, cell), (1, cell)]), (f"twice {cell}", [(2, cell), (3, cell)])]
        pairs += [(f"twice {cell} behind", [(1, (cell + 1) % 16), (1, cell), (2, cell)])]
        pairs += [(f"twice {cell} ahead", [(2, cell), (1, cell), (1, (cell + 1) % 16)])]
    pairs += [("577 of one", [(577, 1)]), ("1000", [(1000, 1)]), ("huge", [(HUGE, 1)]), ("576 and 1", [(576, 1), (1, 2)])]
    pairs += [("1 and 576", [(1, 1), (576, 2)]), ("288 and 289", [(288, 1), (289, 2)]), ("all huge", [(HUGE, 1), (HUGE, 2)])]
    pairs += [("577 by one", [(1, place % 2) for place in range(577)]), ("many", [(1, k % 2) for k in range(2000)])]
    pairs += [("193 by three", [(3, place % 5) for place in range(193)])]
    return pairs


class TestInterface(Case):

    def test_arguments(self):
        self.check_arguments(runs_of, ["cells"])
        self.check_arguments(cells_by_runs, ["runs"])
        self.check_arguments(runs_text, ["runs"])
        self.check_arguments(runs_by_text, ["text"])


class TestRunsOf(Case):

    def test_written_out(self):
        for runs, cells, text in EXAMPLES:
            with self.subTest(text=text):
                self.check_told(list(runs), runs_of, list(cells))

    def test_short_lists(self):
        for cells in short_lists():
            self.check_told(grouped(cells), runs_of, cells)

    def test_all_alike(self):
        for cell in range(16):
            for many in [1, 2, 9, 10, 24, 575, 576]:
                self.check_told([(many, cell)], runs_of, [cell] * many)

    def test_no_two_alike(self):
        for many in [1, 2, 9, 10, 24, 575, 576]:
            self.check_told([(1, 5 * place % 16) for place in range(many)], runs_of, [5 * k % 16 for k in range(many)])

    def test_too_many(self):
        for many in [577, 578, 1000]:
            self.check_refused(BadCell, runs_of, [1] * many)
            self.check_refused(BadCell, runs_of, [5 * place % 16 for place in range(many)])

    def test_no_list_of_cells(self):
        for what, thing in no_lists_of_cells():
            with self.subTest(what=what):
                self.check_refused(BadCell, runs_of, thing)

    def test_no_cell_at_any_place_of_many(self):
        for thing in [-1, 16, True, False, None, 1.0, "1", [1], HUGE]:
            for place in [0, 1, 287, 574, 575]:
                cells = [1] * 576
                cells[place] = thing
                with self.subTest(place=place):
                    self.check_refused(BadCell, runs_of, cells)


class TestCellsByRuns(Case):

    def test_written_out(self):
        for runs, cells, text in EXAMPLES:
            with self.subTest(text=text):
                self.check_told(list(cells), cells_by_runs, list(runs))

    def test_back_again(self):
        for cells in short_lists():
            self.check_told(list(cells), cells_by_runs, runs_of(cells))
        for many in [24, 575, 576]:
            for step in [1, 2, 3, 7, 30]:
                cells = [place // step % 16 for place in range(many)]
                self.check_told(list(cells), cells_by_runs, runs_of(cells))

    def test_just_so_many(self):
        self.check_told([1] * 288 + [2] * 288, cells_by_runs, [(288, 1), (288, 2)])
        self.check_told([place % 2 for place in range(576)], cells_by_runs, [(1, place % 2) for place in range(576)])

    def test_no_runs(self):
        for what, thing in no_runs():
            with self.subTest(what=what):
                self.check_refused(BadRuns, cells_by_runs, thing)


class TestRunsText(Case):

    def test_written_out(self):
        for runs, cells, text in EXAMPLES:
            with self.subTest(text=text):
                self.check_told(text, runs_text, list(runs))

    def test_every_count(self):
        for count in range(1, 577):
            self.check_told(("" if count == 1 else str(count)) + "m", runs_text, [(count, 12)])

    def test_every_cell(self):
        for cell in range(16):
            self.check_told(LETTERS[cell], runs_text, [(1, cell)])
            self.check_told("3" + LETTERS[cell], runs_text, [(3, cell)])

    def test_no_runs(self):
        for what, thing in no_runs():
            with self.subTest(what=what):
                self.check_refused(BadRuns, runs_text, thing)


class TestRunsByText(Case):

    def test_written_out(self):
        for runs, cells, text in EXAMPLES:
            with self.subTest(text=text):
                self.check_told(list(runs), runs_by_text, text)

    def test_back_again(self):
        for cells in short_lists():
            self.check_told(runs_of(cells), runs_by_text, runs_text(runs_of(cells)))
        for count in range(1, 577):
            self.check_told([(count, 12)], runs_by_text, runs_text([(count, 12)]))
        longest = [(1, place % 16) for place in range(576)]
        self.check_told(list(longest), runs_by_text, LETTERS * 36)

    def test_counts_that_are_none(self):
        for text in ["0a", "1a", "00a", "01a", "02a", "010a", "0576a", "1a1b", "a1b", "b0a", "a01b", "2a02b", "2a0b", "02",
                     "577a", "1000a", "5760a", "99999a", "9" * 4000 + "a", "1" + "0" * 4000 + "a", "0" * 4000 + "2a",
                     "-1a", "-2a", "+2a", "2.0a", "2,5a", "2_0a", "1_0a", "0x2a", "^a"]:
            with self.subTest(text=text[:20]):
                self.check_refused(BadRuns, runs_by_text, text)

    def test_counts_with_no_letter_behind(self):
        for text in ["0", "1", "2", "10", "576", "a2", "a1", "2a3", "abc10", "2a0", "a576"]:
            with self.subTest(text=text):
                self.check_refused(BadRuns, runs_by_text, text)

    def test_every_sign_at_every_place(self):
        for code in list(range(32, 127)) + [9, 10, 13]:
            sign = chr(code)
            for text in [sign, "a" + sign, sign + "a", "2a" + sign, "2" + sign, "2" + sign + "b", "a" + sign + "b"]:
                if sign != "%":
                    self.check_read(text)

    def test_every_short_text(self):
        for many in range(5):
            for signs in itertools.product("012abqA", repeat=many):
                self.check_read("".join(signs))

    def check_read(self, text):
        runs = read(text)
        with self.subTest(text=text):
            if runs is None:
                self.check_refused(BadRuns, runs_by_text, text)
            else:
                self.check_told(runs, runs_by_text, text)

    def test_letters_beyond_and_capitals(self):
        for text in ["q", "z", "A", "P", "Q", "2q", "2A", "aB", "Ab", "aq", "qa", "3a2P", "a z"]:
            with self.subTest(text=text):
                self.check_refused(BadRuns, runs_by_text, text)

    def test_blanks_and_line_ends(self):
        for text in [" ", "\n", "\t", " a", "a ", "a b", "2 a", "a\n", "\na", "a\nb", "2\na", "a\tb", "2a ", "a\r\n"]:
            with self.subTest(text=text):
                self.check_refused(BadRuns, runs_by_text, text)

    def test_two_neighbours_of_one_cell(self):
        for text in ["aa", "2aa", "a2a", "2a3a", "baa", "aab", "bb2c", "p10p", "3ap2p2p", "abccba"]:
            with self.subTest(text=text):
                self.check_refused(BadRuns, runs_by_text, text)

    def test_just_576_cells_and_more(self):
        self.check_told([(288, 0), (288, 1)], runs_by_text, "288a288b")
        self.check_told([(1, 0), (574, 1), (1, 0)], runs_by_text, "a574ba")
        for text in ["577a", "576ab", "a576b", "288a289b", "a575ba", "999a", "ab" * 288 + "a", "ab" * 2000, LETTERS * 37]:
            with self.subTest(text=text[:20]):
                self.check_refused(BadRuns, runs_by_text, text)

    def test_what_is_no_text(self):
        pairs = odd_things() + [("a number", 1), ("no runs", []), ("runs", [(1, 2)]), ("a list of texts", ["a"])]
        pairs += [("a tuple of texts", ("a",)), ("bytes", b"2a"), ("empty bytes", b""), ("a list of none", [[]])]
        for what, thing in pairs:
            with self.subTest(what=what):
                self.check_refused(BadRuns, runs_by_text, thing)


if __name__ == "__main__":
    unittest.main()
