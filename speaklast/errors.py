"""The errors of the package, each with its fields as attributes.

No class calls the `__init__` of its base: Python itself keeps what an error
is passed by position, and shows it as the message.
"""


class FeedError(ValueError):
    """The base of the errors about tables, changes, nets, steps and texts."""

    def __init__(self, told):
        self.told = told


class InvalidTable(FeedError):
    """A table that has not the form of a table."""

    def __init__(self, reason):
        self.reason = reason


class InvalidChange(FeedError):
    """A change that cannot be made."""

    def __init__(self, reason):
        self.reason = reason


class InvalidSite(FeedError):
    """A site with a wrong argument."""

    def __init__(self, reason):
        self.reason = reason


class InvalidFeed(FeedError):
    """A feed with a wrong argument, or feeds that cannot be joined."""

    def __init__(self, reason):
        self.reason = reason


class InvalidNet(FeedError):
    """A net that has not the form of a net; name is the site or feed that breaks it."""

    def __init__(self, reason, name):
        self.reason = reason
        self.name = name


class InvalidStep(FeedError):
    """A step that is not allowed."""

    def __init__(self, reason):
        self.reason = reason


class InvalidText(FeedError):
    """A text that is not written as it must be, with the place of its first fault."""

    def __init__(self, line, word):
        self.line = line
        self.word = word


class UnknownCommand(FeedError):
    """A line that is no command."""

    def __init__(self, line):
        self.line = line


class UnknownName(KeyError):
    """A name that no site, or no feed, has."""

    def __init__(self, name):
        self.name = name


class InvalidUndo(IndexError):
    """More events to take back than there are, or no number of events."""

    def __init__(self, count):
        self.count = count


class InvalidFall(IndexError):
    """A fall beyond the messages of a feed, or by no number of messages."""

    def __init__(self, back):
        self.back = back


class NothingPending(LookupError):
    """A feed has no message to deliver."""

    def __init__(self, name):
        self.name = name


class Blocked(RuntimeError):
    """A feed waits: its next message is blocked."""

    def __init__(self, name):
        self.name = name


class TooMany(OverflowError):
    """More things than the package handles."""

    def __init__(self, count):
        self.count = count
