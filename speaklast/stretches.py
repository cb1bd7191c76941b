"""Where the conditions of filters cut the integers of a column."""


def parts_on(tree, column):
    """The list of the parts of all conditions of a filter's tree that are on the column."""
    if tree[0] == "within":
        return [tree[2]] if tree[1] == column else []
    if tree[0] == "missing":
        return []
    found = []
    for branch in tree[1:]:
        found.extend(parts_on(branch, column))
    return found


def cuts_on(trees, column):
    """The ascending list of the numbers at which a condition of these trees on the column changes."""
    found = []
    for tree in trees:
        for parts in parts_on(tree, column):
            found.extend(cuts_of(parts))
    return sorted(set(found))


def cuts_of(parts):
    """The list of the numbers that are in the parts while the number before is not, or the other way round."""
    starts = [low for low, high in parts if low is not None]
    ends = [high + 1 for low, high in parts if high is not None]
    return starts + ends


def stretches_between(cuts):
    """The tuple of the stretches, ascending, each of which ends where a cut starts the next one."""
    lows = [None] + cuts
    highs = [cut - 1 for cut in cuts] + [None]
    return tuple(list(zip(lows, highs)))


def place_among(cuts, number):
    """The index of the stretch of a number: how many of the ascending cuts are not above it."""
    start = 0
    end = len(cuts)
    while start < end:
        middle = (start + end) // 2
        if cuts[middle] <= number:
            start = middle + 1
        else:
            end = middle
    return start
