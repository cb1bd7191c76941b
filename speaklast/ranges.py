"""Sets of integers that are unions of finitely many stretches.

A stretch is a tuple (low, high), both included, None for an open end. The
parts of a set are its fewest stretches, ascending.
"""


class Ranges:
    """A set of integers; made by of, between, full and empty."""

    def __init__(self, parts):
        # Only parts that are joined and ascending already are passed here:
        # so two sets with the same numbers have equal parts.
        self.parts = parts

    @classmethod
    def of(cls, *numbers):
        """Just these numbers."""
        return cls(joined([(number, number) for number in numbers]))

    @classmethod
    def between(cls, low, high):
        """The numbers from low to high, both included; None is open."""
        if low is not None and high is not None and low > high:
            return cls(())
        return cls(((low, high),))

    @classmethod
    def full(cls):
        """All integers."""
        return cls(((None, None),))

    @classmethod
    def empty(cls):
        """No integer."""
        return cls(())

    def __or__(self, other):
        return Ranges(joined(self.parts + other.parts))

    def __and__(self, other):
        # A number is missing from the intersection if it is missing from one of both.
        return Ranges(gaps(joined(gaps(self.parts) + gaps(other.parts))))

    def __sub__(self, other):
        return Ranges(gaps(joined(gaps(self.parts) + other.parts)))

    def __eq__(self, other):
        return isinstance(other, Ranges) and self.parts == other.parts

    def __contains__(self, value):
        return isinstance(value, int) and not isinstance(value, bool) and in_parts(self.parts, value)

    def __bool__(self):
        return bool(self.parts)

    def is_within(self, b):
        """Whether each number of this set is in b."""
        return not (self - b)

    def sample(self, count):
        """The list of the first numbers in the order 0, 1, -1, 2, -2 and so on."""
        upward = first_numbers(self.parts, 0, count)
        downward = [-number for number in first_numbers(mirrored(self.parts), 1, count)]
        return sorted(upward + downward, key=place_of)[:count]


def start_of(stretch):
    """What stretches are sorted by: an open low end lies ahead of all numbers."""
    low = stretch[0]
    return (0, 0) if low is None else (1, low)


def joined(stretches):
    """The fewest stretches, ascending, with the numbers of these, which stand in any order."""
    parts = []
    for low, high in sorted(stretches, key=start_of):
        if parts and touches(parts[-1], low):
            first, last = parts.pop()
            parts.append((first, later_end(last, high)))
        else:
            parts.append((low, high))
    return tuple(parts)


def touches(part, low):
    """Whether a stretch that starts at low, not ahead of the part, leaves no gap behind it."""
    high = part[1]
    return low is None or high is None or low <= high + 1


def later_end(one, other):
    """The later one of two high ends."""
    if one is None or other is None:
        return None
    return max(one, other)


def gaps(parts):
    """The parts of the set of all integers that are not in the parts."""
    found = []
    low = None
    for first, last in parts:
        if first is not None:
            found.append((low, first - 1))
        if last is None:
            return tuple(found)
        low = last + 1
    found.append((low, None))
    return tuple(found)


def in_parts(parts, number):
    """Whether an integer is in one of the parts; halves the parts until it is found."""
    start = 0
    end = len(parts)
    while start < end:
        middle = (start + end) // 2
        low, high = parts[middle]
        if low is not None and number < low:
            end = middle
        elif high is not None and number > high:
            start = middle + 1
        else:
            return True
    return False


def mirrored(parts):
    """The parts of the set of the negated numbers."""
    return tuple([(opposite(high), opposite(low)) for low, high in parts[::-1]])


def opposite(end):
    """The end of a stretch, seen from the other side of zero; an open one stays open."""
    return None if end is None else -end


def first_numbers(parts, least, count):
    """The list of the first count numbers of the parts, ascending, from least on."""
    found = []
    for low, high in parts:
        start = least if low is None else max(low, least)
        # The stretch may be open or huge: no more is listed than is still wanted.
        behind = start + count - len(found)
        if high is not None:
            behind = min(behind, high + 1)
        found.extend(list(range(start, behind)))
    return found


def place_of(number):
    """The index of a number in the order 0, 1, -1, 2, -2 and so on."""
    return 2 * number - 1 if number > 0 else -2 * number
