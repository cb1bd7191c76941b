"""What is a name, a value and a key; each function takes any value."""


def is_number(thing):
    """Whether a thing is an integer; True and False are none."""
    return isinstance(thing, int) and not isinstance(thing, bool)


def is_value(thing):
    """Whether a thing is an integer of at most 30 digits."""
    return is_number(thing) and abs(thing) < 10 ** 30


def is_name(thing):
    """Whether a thing is a string of 1 to 8 letters from a to z."""
    return isinstance(thing, str) and 1 <= len(thing) <= 8 and all(["a" <= sign <= "z" for sign in thing])


def are_names(things):
    """Whether a tuple has one or more things, all of them distinct names."""
    return len(things) > 0 and all([is_name(thing) for thing in things]) and len(set(things)) == len(things)


def is_key(thing, size):
    """Whether a thing is a tuple of as many integers, of at most 30 digits, as size tells."""
    return isinstance(thing, tuple) and len(thing) == size and all([is_value(part) for part in thing])


def sequence_of(things):
    """A list or tuple as a tuple; of any other value the empty tuple, in which nothing is right."""
    return tuple(things) if isinstance(things, (list, tuple)) else ()


def is_tuple_of(thing, size):
    """Whether any value is a tuple with this number of parts."""
    return isinstance(thing, tuple) and len(thing) == size


def is_word(thing, word):
    """Whether any value is this very string."""
    return isinstance(thing, str) and thing == word
