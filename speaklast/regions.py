"""Whether a key passes two regions.

The values of a key are never None. So a region is true or false of each key,
and a few numbers of each key column stand for all others. Those of the last
column are tried at once: a set of them is kept as one integer, bit by bit.
"""

from speaklast.ranges import in_parts
from speaklast.stretches import cuts_on, parts_on

# How many numbers are tried at once, so that the integers stay short.
BLOCK = 1000


def share_a_key(columns, one, other):
    """Whether a key, a value for each of these one or two columns, passes both filters."""
    tree = ("and", one.tree, other.tree)
    firsts = numbers_to_try(tree, columns[0]) if len(columns) > 1 else [0]
    lasts = numbers_to_try(tree, columns[-1])
    for start in range(0, len(lasts), BLOCK):
        block = lasts[start:start + BLOCK]
        whole = (1 << len(block)) - 1
        marked = marked_tree(tree, columns[-1], block)
        for number in firsts:
            if passing(marked, number, whole) != 0:
                return True
    return False


def marked_tree(tree, column, numbers):
    """The tree with the set of the numbers that are in it in place of each condition on the column."""
    if tree[0] == "within" and tree[1] == column:
        return ("marked", marks_of(tree[2], numbers))
    if tree[0] in ("and", "or"):
        return (tree[0], marked_tree(tree[1], column, numbers), marked_tree(tree[2], column, numbers))
    if tree[0] == "not":
        return ("not", marked_tree(tree[1], column, numbers))
    return tree


def marks_of(parts, numbers):
    """The set of the numbers that are in the parts."""
    marks = 0
    for at, number in enumerate(numbers):
        if in_parts(parts, number):
            marks = marks | (1 << at)
    return marks


def passing(tree, number, whole):
    """The set of the last column's numbers that pass a marked tree beside a number of the first column."""
    word = tree[0]
    if word == "marked":
        return tree[1]
    if word == "within":
        return whole if in_parts(tree[2], number) else 0
    if word == "and":
        return passing(tree[1], number, whole) & passing(tree[2], number, whole)
    if word == "or":
        return passing(tree[1], number, whole) | passing(tree[2], number, whole)
    if word == "not":
        return whole - passing(tree[1], number, whole)
    return whole if word == "always" else 0


def numbers_to_try(tree, column):
    """A number for each way in which the conditions of a tree on the column can be true and false."""
    conditions = parts_on(tree, column)
    cuts = cuts_on([tree], column)
    least = cuts[0] - 1 if cuts else 0
    found = {}
    for number in [least] + cuts:
        truths = tuple([in_parts(parts, number) for parts in conditions])
        found.setdefault(truths, number)
    return list(found.values())
