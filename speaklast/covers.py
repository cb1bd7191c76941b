"""Boxes that pass just some key cells, with few conditions."""

from speaklast.filters import Filter
from speaklast.ranges import Ranges, joined

MOST_CONDITIONS = 80
# The bounds of ranges have at most 12 digits; a stretch behind the last such number starts beyond it.
LAST_BOUND = 999999999999


def box_of(grid, key, key_cells):
    """A box over the key columns that passes just these key cells of a grid, one at least."""
    if len(key) == 1:
        return condition(key[0], ranges_of(grid, key[0], [cell[0] for cell in key_cells]))
    terms = terms_of(grid, key, key_cells)
    boxes = [condition(first, one) & condition(second, other) for first, one, second, other in terms]
    if sum([conditions_in(box.tree) for box in boxes]) > MOST_CONDITIONS:
        boxes = [Filter.within(first, one) & Filter.within(second, other) for first, one, second, other in terms]
    return any_of(boxes)


def terms_of(grid, key, key_cells):
    """The list of the tuples (column, ranges, other column, other ranges) whose pairs are these key cells.

    There are no more of them than stretches of the column with fewer, and the
    square of these is at most the number of cells: so there are at most 38.
    """
    short, long = (0, 1) if len(grid.stretches(key[0])) <= len(grid.stretches(key[1])) else (1, 0)
    beside = {}
    for cell in key_cells:
        beside.setdefault(cell[short], []).append(cell[long])
    groups = {}
    for place in beside:
        groups.setdefault(tuple(sorted(beside[place])), []).append(place)
    return [(key[short], ranges_of(grid, key[short], places), key[long], ranges_of(grid, key[long], list(others)))
            for others, places in groups.items()]


def ranges_of(grid, column, places):
    """The numbers of these stretches of a column."""
    stretches = grid.stretches(column)
    return Ranges(joined([stretches[place] for place in places]))


def condition(column, numbers):
    """A filter for these numbers of a column in which no bound has more than 12 digits."""
    if has_fair_bounds(numbers):
        return Filter.within(column, numbers)
    others = Ranges.full() - numbers
    if has_fair_bounds(others):
        return ~Filter.within(column, others)
    # The numbers beyond the last bound on one side, and none of those on the other side: told by what they are not.
    inner = numbers & Ranges.between(-LAST_BOUND, LAST_BOUND)
    for rest in (Ranges.between(-LAST_BOUND, None), Ranges.between(None, LAST_BOUND)):
        if numbers == inner | (Ranges.full() - rest):
            return Filter.within(column, inner) | ~Filter.within(column, rest)
    return Filter.within(column, numbers)


def has_fair_bounds(numbers):
    """Whether no bound has more than 12 digits."""
    ends = [end for part in numbers.parts for end in part if end is not None]
    return all([abs(end) <= LAST_BOUND for end in ends])


def conditions_in(tree):
    """How many conditions a filter has."""
    if tree[0] in ("and", "or"):
        return conditions_in(tree[1]) + conditions_in(tree[2])
    return conditions_in(tree[1]) if tree[0] == "not" else 1


def any_of(boxes):
    """The filter that passes what one of these passes, nested as little as possible."""
    while len(boxes) > 1:
        pairs = [boxes[at:at + 2] for at in range(0, len(boxes), 2)]
        boxes = [pair[0] | pair[1] if len(pair) > 1 else pair[0] for pair in pairs]
    return boxes[0]
