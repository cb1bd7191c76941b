"""The words of one line, read one by one; and numbers, values, sets and filters as words."""

from speaklast.errors import InvalidText
from speaklast.filters import Filter
from speaklast.kinds import is_name
from speaklast.ranges import Ranges, joined
from speaklast.texts import show_ranges

MOST_WORDS = 400
MOST_SIGNS = 100
DIGITS_OF_BOUNDS = 12
DIGITS_OF_VALUES = 30
# How many filters stand behind each sign.
SIGNS = {"&": 2, "|": 2, "~": 1}


class Phrase:
    """The words of a line, and how many of them are read."""

    def __init__(self, line, words):
        self.line = line
        self.words = words
        self.place = 0

    def has_more(self):
        """Whether a word is left."""
        return self.place < len(self.words)

    def next_word(self):
        """The next word; raises InvalidText if it is missing."""
        if not self.has_more():
            raise InvalidText(self.line, len(self.words))
        self.place += 1
        return self.words[self.place - 1]

    def check(self, stands):
        """Raises InvalidText for the word that was read last, unless it may stand there."""
        if not stands:
            raise InvalidText(self.line, self.place - 1)

    def end(self):
        """Raises InvalidText if a word is left."""
        if self.has_more():
            raise InvalidText(self.line, self.place)

    def next_of(self, words):
        """The next word, which is one of these."""
        word = self.next_word()
        self.check(word in words)
        return word

    def next_name(self):
        """The next word, which is a name."""
        word = self.next_word()
        self.check(is_name(word))
        return word

    def rest_of_names(self):
        """The tuple of all words that are left, one at least, all of them names."""
        found = [self.next_name()]
        while self.has_more():
            found.append(self.next_name())
        return tuple(found)

    def next_number(self, digits, low, high):
        """The next word as an integer of at most so many digits, from low to high; None is open."""
        number = number_in(self.next_word(), digits)
        self.check(number is not None and number in Ranges.between(low, high))
        return number

    def rest_of_values(self):
        """The tuple of all words that are left, one at least, as values."""
        found = [self.next_value()]
        while self.has_more():
            found.append(self.next_value())
        return tuple(found)

    def next_value(self):
        """The next word as a value."""
        word = self.next_word()
        number = number_in(word, DIGITS_OF_VALUES)
        self.check(number is not None or word == "none")
        return number

    def next_ranges(self):
        """The next word as a set of integers."""
        found = ranges_in(self.next_word())
        self.check(found is not None)
        return found

    def next_filter(self):
        """The next words as a filter."""
        last = self.place + MOST_WORDS
        # The signs whose filters are not read whole, each with those that are.
        waiting = []
        made = None
        while made is None:
            word = self.next_word()
            self.check(self.place <= last)
            if word in SIGNS:
                self.check(len(waiting) < MOST_SIGNS)
                waiting.append((word, []))
            else:
                made = closed(waiting, self.condition(word, last))
        return made

    def condition(self, word, last):
        """The filter without signs that begins with a word; last is how many words may be read behind it."""
        self.check(word in ("always", "never", "missing", "in"))
        if word == "always":
            return Filter.always()
        if word == "never":
            return Filter.never()
        column = self.next_name()
        self.check(self.place <= last)
        if word == "missing":
            return Filter.missing(column)
        numbers = self.next_ranges()
        self.check(self.place <= last)
        return Filter.within(column, numbers)


def closed(waiting, made):
    """Gives a filter to the last sign that waits, and so on while filters are whole; the whole one, or None."""
    while waiting:
        sign, parts = waiting[-1]
        parts.append(made)
        if len(parts) < SIGNS[sign]:
            return None
        waiting.pop()
        made = joined_by(sign, parts)
    return made


def joined_by(sign, parts):
    """The filter that a sign makes of the filters behind it."""
    if sign == "~":
        return ~parts[0]
    return parts[0] & parts[1] if sign == "&" else parts[0] | parts[1]


def number_in(word, digits):
    """The integer of at most so many digits that is written as this word, or None."""
    figures = word[1:] if word.startswith("-") else word
    if not (1 <= len(figures) <= digits and all([figure in "0123456789" for figure in figures])):
        return None
    # No noughts ahead, and no nought with a sign.
    return None if figures[0] == "0" and word != "0" else int(word)


def ranges_in(word):
    """The set of integers that is written as this word, or None."""
    if word == "-":
        return Ranges.empty()
    stretches = [stretch_in(part) for part in word.split(",")]
    if None in stretches:
        return None
    found = Ranges(joined(stretches))
    # Parts that touch, or stand in another order, are written in another way.
    return found if show_ranges(found) == word else None


def stretch_in(part):
    """The stretch that is written so, or None."""
    if ".." not in part:
        number = number_in(part, DIGITS_OF_BOUNDS)
        return None if number is None else (number, number)
    first, _, last = part.partition("..")
    low = number_in(first, DIGITS_OF_BOUNDS)
    high = number_in(last, DIGITS_OF_BOUNDS)
    if (first != "" and low is None) or (last != "" and high is None):
        return None
    return None if low is not None and high is not None and low > high else (low, high)
