"""What several tests hand in: things of wrong kinds, pictures, and the check of a refusal."""

import copy
import fractions
import inspect
import unittest

HUGE = 10 ** 5000


class EqualToAll:
    """Is like whatever it is compared with."""

    def __eq__(self, other):
        return True

    def __ne__(self, other):
        return False

    def __hash__(self):
        return 0

    def __index__(self):
        return 1

    def __int__(self):
        return 1


class Grumbler:
    """Fails whatever is done with it."""

    def fail(self, *rest):
        raise RuntimeError("not to be asked")

    __eq__ = __ne__ = __lt__ = __le__ = __gt__ = __ge__ = fail
    __hash__ = __bool__ = __len__ = __iter__ = __contains__ = fail
    __getitem__ = __index__ = __int__ = __repr__ = __str__ = fail


def nested(deep):
    thing = []
    for step in range(deep - 1):
        thing = [thing]
    return thing


def odd_things():
    """Pairs (what it is, the thing): none is a whole number, a text, a picture or a list of cells."""
    return [
        ("None", None), ("True", True), ("False", False), ("0.0", 0.0), ("1.0", 1.0), ("1.5", 1.5),
        ("not a number", float("nan")), ("endless", float("inf")), ("1j", 1j), ("a fraction", fractions.Fraction(1)),
        ("bytes", b"1"), ("a bytearray", bytearray(b"1")),
        ("an empty tuple", ()), ("a tuple", (1,)), ("a tuple of tuples", ((1,),)), ("a tuple of lists", ([1],)),
        ("an empty dict", {}), ("a dict", {0: 1}), ("a dict of lists", {0: [1]}), ("a set", {1}),
        ("a frozenset", frozenset([1])), ("a range", range(1, 3)), ("a generator", (n for n in [1])),
        ("an object", object()), ("a class", int), ("a function", len), ("lists a hundred deep", nested(100)),
        ("equal to all", EqualToAll()), ("a grumbler", Grumbler()), ("a list of None", [None]),
        ("a list of a grumbler", [Grumbler()]), ("a list of True", [True]),
    ]


def odd_texts():
    return [("an empty text", ""), ("a blank", " "), ("a figure", "1"), ("a letter", "a"), ("two figures", "12")]


def no_numbers():
    return odd_things() + odd_texts() + [("an empty list", []), ("a list", [1]), ("a picture", [[1]])]


def no_cells():
    numbers = [-1, 16, 17, 24, 255, -16, 2 ** 64, -2 ** 64, HUGE, -HUGE]
    return no_numbers() + [(f"number {k} of those beyond", number) for k, number in enumerate(numbers)]


def no_lists_of_cells():
    """Pairs (what it is, the thing): none is a list of cells, however many."""
    pairs = odd_things() + odd_texts() + [("a cell", 0), ("a text of figures", "0123"), ("a tuple of cells", (0, 1))]
    pairs += [("a picture", [[0, 1]]), ("an empty list in a list", [[]]), ("a text in a list", ["0"])]
    for what, thing in no_cells():
        pairs.append(("alone: " + what, [thing]))
        pairs += [(f"at place {place}: {what}", [1, 2, 3, 4][:place] + [thing] + [1, 2, 3, 4][place:])
                  for place in range(5)]
    return pairs


def no_sides():
    numbers = [0, -1, 25, 26, -24, 2 ** 64, HUGE, -HUGE]
    return no_numbers() + [(f"number {k} of those beyond", number) for k, number in enumerate(numbers)]


def no_steps():
    """Pairs (what it is, the thing): none is a whole number from 1 on."""
    numbers = [0, -1, -2, -24, -2 ** 64, -HUGE]
    return no_numbers() + [(f"number {k} of those below", number) for k, number in enumerate(numbers)]


def made_picture(wide, high):
    """A picture of that size in which neighbours differ and all sixteen cells come."""
    return [[(7 * x + 5 * y + x * y) % 16 for x in range(wide)] for y in range(high)]


def row_twice():
    """A picture in which one list stands as both rows."""
    row = [1, 2]
    return [row, row]


def no_pictures():
    """Pairs (what it is, the thing): none is a picture."""
    pairs = odd_things() + odd_texts()
    pairs += [("a cell", 0), ("a number", 16), ("a huge number", HUGE), ("no rows", []), ("a list of cells", [0, 1])]
    pairs += [("an empty row", [[]]), ("empty rows", [[], []]), ("an empty row behind", [[0], []])]
    pairs += [("an empty row ahead", [[], [0]])]
    pairs += [("a longer row", [[0, 1], [0, 1, 2]]), ("a shorter row", [[0, 1], [0]]), ("the last row", [[0], [0], [0, 0]])]
    pairs += [("a row that is a tuple", [(0, 1)]), ("a tuple behind", [[0, 1], (0, 1)]), ("a tuple ahead", [(0,), [0]])]
    pairs += [("a row that is a text", ["01"]), ("a text of rows", "01\n23"), ("a tuple of rows", ([0], [1]))]
    pairs += [("a row that is a dict", [{0: 1}]), ("a row that is a cell", [[0], 0]), ("a row that is None", [[0], None])]
    pairs += [("25 rows", made_picture(1, 25)), ("25 columns", made_picture(25, 1)), ("25 by 25", made_picture(25, 25))]
    pairs += [("25 rows of 24", made_picture(24, 25)), ("24 rows of 25", made_picture(25, 24))]
    pairs += [("one row of 25 among 24", made_picture(24, 23) + [[0] * 25])]
    for what, cell in no_cells():
        pairs.append(("alone: " + what, [[cell]]))
        pairs.append(("at the end: " + what, [[0, 1], [2, cell]]))
    return pairs


def made_mask(wide, high):
    """A mask of that size in which cells that it has and lacks stand mixed."""
    return mask_by(wide, high, lambda x, y: (3 * x + 5 * y + x * y) % 7 in (0, 1, 4))


def mask_by(wide, high, has):
    """The mask of the places (x, y) of which has tells so: figures are written from the right cell on."""
    return (wide, tuple(int("".join("01"[has(x, y)] for x in reversed(range(wide))), 2) for y in range(high)))


def places_in(mask):
    wide, rows = mask
    return [(x, y) for y, row in enumerate(rows) for x in range(wide) if format(row, "b").zfill(wide)[::-1][x] == "1"]


def no_masks():
    """Pairs (what it is, the thing): none is a mask."""
    pairs = odd_things() + odd_texts() + [("a number", 1), ("a list", [1, (1,)]), ("a picture", [[1]])]
    pairs += [("a mask in a list", [(1, (1,))]), ("a mask in a tuple", ((1, (1,)),)), ("one thing", (1,))]
    pairs += [("rows alone", ((1, 1),)), ("three things", (1, (1,), 1)), ("rows twice", (1, (1,), (1,)))]
    pairs += [("a third that is None", (1, (1,), None)), ("the other way about", ((1,), 1)), ("a text of two", "11")]
    pairs += [("a list of rows", (1, [1])), ("a list of no rows", (1, [])), ("all lists", [1, [1]])]
    pairs += [("a number for rows", (1, 1)), ("None for rows", (1, None)), ("a text for rows", (1, "1"))]
    pairs += [("a dict for rows", (1, {0: 1})), ("a set for rows", (1, {1})), ("a range for rows", (1, range(1)))]
    pairs += [("no rows", (1, ())), ("25 rows", (1, (1,) * 25)), ("26 rows", (24, (0,) * 26)), ("two numbers", (1, 1))]
    pairs += [("rows of lists", (2, ([0, 1],))), ("rows of tuples", (2, ((0, 1),)))]
    for what, wide in no_sides():
        pairs.append(("as width: " + what, (wide, (0,))))
        pairs.append(("as width of two rows: " + what, (wide, (1, 1))))
    for what, row in no_numbers() + [("-1", -1), ("-2 ** 64", -2 ** 64), ("huge", HUGE), ("huge below", -HUGE)]:
        pairs.append(("as row: " + what, (3, (row,))))
        pairs.append(("as last row: " + what, (24, (0, 1, row))))
        pairs.append(("as first row: " + what, (24, (row, 1, 0))))
    for wide in range(1, 25):
        pairs.append((f"2 ** {wide}", (wide, (2 ** wide,))))
        pairs.append((f"2 ** {wide} behind", (wide, (0, 2 ** wide))))
        pairs.append((f"2 ** {wide} ahead", (wide, (2 ** wide, 0))))
        pairs.append((f"2 ** {wide} + 1", (wide, (2 ** wide + 1,))))
    return pairs


def no_colours():
    """Pairs (what it is, the thing): none is a colour."""
    pairs = no_numbers() + [("a number", 1), ("a list of three", [1, 2, 3]), ("a text of three", "123")]
    pairs += [("no parts", ()), ("one part", (1,)), ("two parts", (1, 2)), ("four parts", (1, 2, 3, 4))]
    pairs += [("a colour in a tuple", ((1, 2, 3),)), ("a colour in a list", [(1, 2, 3)]), ("a set", {1, 2, 3})]
    pairs += [("a dict", {0: 1, 1: 2, 2: 3}), ("its text", "#010203"), ("a range", range(3)), ("bytes of three", b"123")]
    pairs += [("a fourth that is None", (1, 2, 3, None)), ("three colours", ((1, 2, 3),) * 3), ("its number", 66051)]
    beyond = [("-1", -1), ("256", 256), ("-255", -255), ("2 ** 64", 2 ** 64), ("huge", HUGE), ("huge below", -HUGE)]
    for what, part in no_numbers() + beyond:
        pairs += [("red: " + what, (part, 1, 2)), ("green: " + what, (1, part, 2)), ("blue: " + what, (1, 2, part))]
    return pairs


def made_colours(many):
    """So many unlike colours, in no order of their numbers."""
    return [((90 * place + 11) % 256, (77 * place) % 256, 255 - place) for place in range(many)]


def same_lists(one, other):
    """Whether a list stands in both, at whatever depth."""
    marks = [id(thing) for thing in lists_in(one)]
    return any(id(thing) in marks for thing in lists_in(other))


def lists_in(thing):
    found = [thing] if isinstance(thing, list) else []
    if isinstance(thing, (list, tuple)):
        for part in thing:
            found += lists_in(part)
    return found


class Case(unittest.TestCase):

    def check_refused(self, error, function, *given):
        """It is refused by that very class, and the lists handed in stay as they were."""
        before = [(part, list(part)) for thing in given for part in lists_in(thing)]
        with self.assertRaises(error) as caught:
            function(*given)
        self.assertIs(type(caught.exception), error)
        for part, was in before:
            self.assertEqual([id(thing) for thing in part], [id(thing) for thing in was])

    def check_told(self, due, function, *given):
        """It tells what is due, of the very kinds, in lists of its own, and each time anew."""
        kept = copy.deepcopy(given)
        told = function(*given)
        self.check_same(told, due)
        self.assertEqual(given, kept)
        self.assertFalse(same_lists(told, list(given)), "a list that was handed in is told")
        marks = [id(part) for part in lists_in(told)]
        self.assertEqual(len(marks), len(set(marks)), "a list stands twice in what is told")
        for part in lists_in(told):
            part.clear()
        self.assertEqual(given, kept)
        again = function(*given)
        self.check_same(again, due)
        for part in lists_in(list(given)):
            part.clear()
        self.check_same(again, due)
        self.check_same(function(*kept), due)

    def check_same(self, told, due):
        self.assertIs(type(told), type(due))
        self.assertEqual(told, due)
        if isinstance(due, (list, tuple)):
            for one, other in zip(told, due):
                self.check_same(one, other)

    def check_arguments(self, function, names, defaults=None):
        """The arguments have these names, in this order, and these values where they are left out."""
        found = inspect.signature(function).parameters
        self.assertEqual(list(found), names)
        left_out = {name: one.default for name, one in found.items() if one.default is not inspect.Parameter.empty}
        self.assertEqual(left_out, defaults or {})
