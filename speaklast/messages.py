"""The messages that feeds send."""


def message_for(net, feed, old, new):
    """What a feed into a site that is not stamped sends for these rows of its source; None for nothing."""
    return plain_message(net.line_of(feed), old, new)


def stamped_message(net, feed, stamp, key, new):
    """What a feed into a stamped site sends."""
    return message_with_stamp(net.line_of(feed), stamp, key, new)


def plain_message(line, old, new):
    """What a line into a site that is not stamped sends."""
    before = line.passes(old)
    if not line.passes(new):
        return ("delete", line.key_in(old)) if before else None
    row = line.cut_down(new)
    if not before:
        return ("insert", row)
    return None if row == line.cut_down(old) else ("update", row)


def message_with_stamp(line, stamp, key, new):
    """What a line into a stamped site sends."""
    if line.passes(new):
        return ("row", stamp, line.cut_down(new))
    return ("out", stamp, key)
