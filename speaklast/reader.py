"""Reads sets, filters, tables, nets and events from texts."""

from speaklast.errors import InvalidText
from speaklast.feeds import Feed
from speaklast.nets import Net
from speaklast.phrases import DIGITS_OF_VALUES, Phrase
from speaklast.sites import Site
from speaklast.tables import Table

MOST_BACK = 5000
BOX_STEPS = ("leave", "sweep", "copy", "again")
EVENTS = ("make", "deliver", "fall", "rest", "leave", "sweep", "copy", "again")


def read_ranges(text):
    """The set of integers that is written so."""
    phrases = phrases_of(text)
    found = phrases[0].next_ranges()
    end_of_line(phrases)
    return found


def read_filter(text):
    """The filter that is written so."""
    phrases = phrases_of(text)
    found = phrases[0].next_filter()
    end_of_line(phrases)
    return found


def read_table(text):
    """The table that is written so."""
    phrases = phrases_of(text)
    told, many = table_lines(phrases)
    if many < len(phrases):
        raise InvalidText(many, 0)
    return table_of(told)


def read_net(text):
    """The net that is written so."""
    return net_of(phrases_of(text))


def read_events(text):
    """The tuple of the events that are written so."""
    if isinstance(text, str) and text == "":
        return ()
    return tuple([event_of(phrase) for phrase in phrases_of(text)])


def phrases_of(text):
    """The list of the lines of a text; raises InvalidText for any value that is no string."""
    if not isinstance(text, str):
        raise InvalidText(None, None)
    return phrases_in(text.split("\n"))


def phrases_in(lines):
    """The list of the phrases of these lines."""
    return [Phrase(at, line.split(" ")) for at, line in enumerate(lines)]


def end_of_line(phrases):
    """Raises InvalidText if a word is left in the first line, or if there is a second one."""
    phrases[0].end()
    if len(phrases) > 1:
        raise InvalidText(1, 0)


def table_lines(phrases):
    """What the lines of a table tell, a dict from their first words to columns, and how many lines these are."""
    told = {}
    many = 0
    for word in ("table", "key"):
        if many == len(phrases):
            raise InvalidText(many, 0)
        phrases[many].next_of((word,))
        told[word] = phrases[many].rest_of_names()
        many += 1
    for word in ("fixed", "unique", "once"):
        if many < len(phrases) and phrases[many].words[0] == word:
            phrases[many].next_word()
            told[word] = columns_of(phrases[many], word)
            many += 1
    return (told, many)


def columns_of(phrase, word):
    """The columns behind the first word of a line of a table; there are none behind the word once."""
    if word != "once":
        return phrase.rest_of_names()
    phrase.end()
    return ()


def table_of(told):
    """The table of which table_lines tells."""
    return Table.of(told["table"], key=told["key"], fixed=told.get("fixed", ()), unique=told.get("unique", ()),
                    reuse="once" not in told)


def net_of(phrases):
    """The net that these lines tell."""
    told, many = table_lines(phrases)
    sites = []
    feeds = []
    for phrase in phrases[many:]:
        # A site behind a feed does not stand where it may.
        word = phrase.next_of(("feed", "own") if feeds else ("site", "home", "feed", "own"))
        if word in ("site", "home"):
            sites.append(words_of_site(phrase, word))
        else:
            feeds.append(words_of_feed(phrase, word))
    table = table_of(told)
    things = [Site.of(name, columns, policy=policy, home=home) for name, policy, columns, home in sites]
    for name, source, target, where, own in feeds:
        things.append(Feed(name, source, target, where=where, own=own))
    return Net.of(table, things)


def words_of_site(phrase, word):
    """What a line of a site tells: (name, policy, columns, region), the region None if it is no home."""
    name = phrase.next_name()
    policy = phrase.next_of(Site.POLICIES)
    if word == "site":
        return (name, policy, phrase.rest_of_names(), None)
    columns = [phrase.next_name()]
    while not (phrase.has_more() and phrase.words[phrase.place] == ":"):
        columns.append(phrase.next_name())
    phrase.next_word()
    region = phrase.next_filter()
    phrase.end()
    return (name, policy, tuple(columns), region)


def words_of_feed(phrase, word):
    """What a line of a feed tells: (name, source, target, filter, whether it is an own one)."""
    name = phrase.next_name()
    source = phrase.next_name()
    target = phrase.next_name()
    where = phrase.next_filter()
    phrase.end()
    return (name, source, target, where, word == "own")


def event_of(phrase):
    """The event that a line tells."""
    word = phrase.next_of(EVENTS)
    name = phrase.next_name()
    if word == "make":
        change = phrase.next_of(("insert", "update", "delete"))
        return (word, name, change, phrase.rest_of_values())
    event = (word, name)
    if word == "fall":
        event = (word, name, phrase.next_number(DIGITS_OF_VALUES, 1, MOST_BACK))
    elif word in BOX_STEPS:
        event = (word, name, phrase.next_filter())
    phrase.end()
    return event
