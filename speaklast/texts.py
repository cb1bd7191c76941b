"""Texts of sets, filters, tables, nets and events."""


def show_ranges(ranges):
    """The text of a set of integers."""
    return text_of_parts(ranges.parts)


def text_of_parts(parts):
    """The text of the parts of a set of integers."""
    return ",".join([text_of_part(low, high) for low, high in parts]) if parts else "-"


def text_of_part(low, high):
    """The text of a stretch."""
    if low is not None and low == high:
        return str(low)
    return text_of_end(low) + ".." + text_of_end(high)


def text_of_end(end):
    """The text of an end of a stretch; an open one has none."""
    return "" if end is None else str(end)


def show_filter(where):
    """The text of a filter."""
    return " ".join(words_of_tree(where.tree))


def words_of_tree(tree):
    """The list of the words of a filter with this tree."""
    signs = {"and": "&", "or": "|", "not": "~"}
    found = []
    waiting = [tree]
    # The branches wait, so that filters that are nested deep need no deep calls.
    while waiting:
        branch = waiting.pop()
        word = branch[0]
        if word in signs:
            found.append(signs[word])
            waiting.extend(list(branch[:0:-1]))
        elif word == "within":
            found.extend(["in", branch[1], text_of_parts(branch[2])])
        else:
            found.extend(list(branch))
    return found


def show_table(table):
    """The text of a table."""
    told = [("table", table.columns), ("key", table.key), ("fixed", table.fixed), ("unique", table.unique)]
    lines = [" ".join((word,) + columns) for word, columns in told if columns]
    return "\n".join(lines if table.reuse else lines + ["once"])


def show_net(net):
    """The text of a net."""
    lines = [show_table(net.table)]
    lines.extend([line_of_site(net.site(name)) for name in net.sites])
    lines.extend([line_of_feed(net.feed(name)) for name in net.feeds])
    return "\n".join(lines)


def line_of_site(site):
    """The line of a site."""
    told = " ".join((site.name, site.policy) + site.columns)
    return f"site {told}" if site.home is None else f"home {told} : {show_filter(site.home)}"


def line_of_feed(feed):
    """The line of a feed."""
    word = "own" if feed.own else "feed"
    return f"{word} {feed.name} {feed.source} {feed.target} {show_filter(feed.where)}"


def show_events(events):
    """The text of a list or tuple of events."""
    return "\n".join([line_of_event(event) for event in events])


def line_of_event(event):
    """The line of an event."""
    if event[0] == "make":
        values = " ".join([text_of_value(value) for value in event[3]])
        return f"make {event[1]} {event[2]} {values}"
    if event[0] in ("deliver", "rest"):
        return f"{event[0]} {event[1]}"
    if event[0] == "fall":
        return f"fall {event[1]} {event[2]}"
    return f"{event[0]} {event[1]} {show_filter(event[2])}"


def text_of_value(value):
    """The text of a value."""
    return "none" if value is None else str(value)
