"""Rows folded: each cell less what its neighbours let one await, and unfolded again."""

from cellfolio.errors import BadRule
from cellfolio.pictures import is_list_of, is_whole_within, need_picture
from cellfolio.runs import runs_of

MOST_RULE = 4
BY_LEFT = 1
BY_ABOVE = 2
BY_BOTH = 3
BY_BITS = 4


def is_fold_rule(thing):
    return is_whole_within(thing, 0, MOST_RULE)


def need_fold_rule(rule):
    if not is_fold_rule(rule):
        raise BadRule("this is no rule from 0 to 4")


def need_fold_rules(rules, many):
    if not is_list_of(rules, is_fold_rule) or len(rules) != many:
        raise BadRule("this is no list of a rule for each row")


def row_above(above, wide):
    """Cells of a row that isn't there count 0."""
    return [0] * wide if above is None else above


def awaited(row, over, x, rule):
    """What the cells round place x, as they were, let one await there; of the row those ahead of x alone are asked."""
    left = row[x - 1] if x > 0 else 0
    corner = over[x - 1] if x > 0 else 0
    if rule == BY_LEFT:
        return left
    if rule == BY_BOTH:
        return left + over[x] - corner
    if rule == BY_ABOVE or rule == BY_BITS:
        return over[x]
    return 0


def folded_cell(cell, due, rule):
    return cell ^ due if rule == BY_BITS else (cell - due) & 15


def unfolded_cell(cell, due, rule):
    return cell ^ due if rule == BY_BITS else (cell + due) & 15


def folded_row(row, above, rule):
    need_fold_rule(rule)
    over = row_above(above, len(row))
    return [folded_cell(cell, awaited(row, over, x, rule), rule) for x, cell in enumerate(row)]


def unfolded_row(row, above, rule):
    need_fold_rule(rule)
    over = row_above(above, len(row))
    cells = []
    for x, cell in enumerate(row):
        cells.append(unfolded_cell(cell, awaited(cells, over, x, rule), rule))
    return cells


def above_in(picture, y):
    return picture[y - 1] if y > 0 else None


def folded_picture(picture, rules):
    need_picture(picture)
    need_fold_rules(rules, len(picture))
    return [folded_row(row, above_in(picture, y), rules[y]) for y, row in enumerate(picture)]


def unfolded_picture(rows, rules):
    need_picture(rows)
    need_fold_rules(rules, len(rows))
    picture = []
    for y, row in enumerate(rows):
        picture.append(unfolded_row(row, above_in(picture, y), rules[y]))
    return picture


def best_rule(row, above):
    many = [len(runs_of(folded_row(row, above, rule))) for rule in range(MOST_RULE + 1)]
    # The first place of the fewest is the least rule.
    return many.index(min(many))


def best_rules(picture):
    need_picture(picture)
    return [best_rule(row, above_in(picture, y)) for y, row in enumerate(picture)]
