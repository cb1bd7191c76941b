"""What a run is at a moment: made rows, shown rows, messages, and the events that led there."""

from speaklast.errors import NothingPending
from speaklast.filters import truth_of
from speaklast.messages import message_with_stamp, plain_message
from speaklast.policies import holding_for, twin_of
from speaklast.tables import Truth


class Queue:
    """The messages that were ever sent on a feed, and its place among them."""

    def __init__(self):
        self.messages = []
        self.place = 0
        # A rest moves this up: the feed never falls back beyond it.
        self.lowest = 0

    def has_next(self):
        """Whether a message is pending."""
        return self.place < len(self.messages)

    def copied(self):
        """A queue of its own with the same messages and places."""
        twin = Queue()
        twin.messages = list(self.messages)
        twin.place = self.place
        twin.lowest = self.lowest
        return twin


class State:
    """All that changes while a run goes on."""

    def __init__(self, net):
        self.wiring = net
        self.truths = {home: Truth(net.table, net.known_site(home).home) for home in net.homes}
        self.holdings = {site: holding_for(net, site) for site in net.sites}
        self.queues = {feed: Queue() for feed in net.feeds}
        self.done = []

    def copied(self):
        """A state of its own that is the same."""
        twin = State(self.wiring)
        twin.truths = {home: self.truths[home].copied() for home in self.truths}
        twin.holdings = {site: twin_of(self.holdings[site]) for site in self.holdings}
        twin.queues = {feed: self.queues[feed].copied() for feed in self.queues}
        twin.done = list(self.done)
        return twin

    def make_change(self, home, word, thing):
        """Makes a change at a home, shows it and sends it; returns its stamp."""
        truth = self.truths[home]
        key, old, new = truth.change(word, thing)
        stamp = truth.stamp
        made = (key, self.row_at_home(home, old), self.row_at_home(home, new))
        steps = self.holdings[home].make(key, made[2], stamp)
        for line in self.wiring.lines_out_of(home):
            if line.own:
                self.send_step(line, made, stamp)
        self.send_steps(home, steps, stamp)
        return stamp

    def row_at_home(self, home, row):
        """A made row, or None, in the order of the columns of its home."""
        columns = self.wiring.known_site(home).columns
        return None if row is None else self.wiring.table.cut(row, columns)

    def deliver_next(self, feed):
        """Delivers the first pending message of a feed; returns the steps at the target."""
        queue = self.queues[feed]
        if not queue.has_next():
            raise NothingPending(feed)
        message = queue.messages[queue.place]
        line = self.wiring.line_of(feed)
        steps = self.holdings[line.target].take(feed, message)
        queue.place += 1
        self.send_steps(line.target, steps, message[1] if line.stamped else None)
        return steps

    def send_steps(self, site, steps, stamp):
        """Sends what happened at a site on every feed out of it that sends all."""
        for line in self.wiring.lines_out_of(site):
            if not line.own:
                for step in steps:
                    self.send_step(line, step, stamp)

    def send_step(self, line, step, stamp):
        """Sends one step on one feed, if the feed has a message for it."""
        key, old, new = step
        if line.stamped:
            message = message_with_stamp(line, stamp, key, new)
        else:
            message = plain_message(line, old, new)
        if message is not None:
            self.queues[line.name].messages.append(message)

    def can_deliver(self, feed):
        """Whether the feed has a pending message that is not blocked."""
        return self.queues[feed].has_next() and not self.is_held_up(feed)

    def is_held_up(self, feed):
        """Whether the next message of the feed is blocked."""
        queue = self.queues[feed]
        holding = self.holdings[self.wiring.line_of(feed).target]
        return queue.has_next() and holding.holds_back(queue.messages[queue.place])

    def change_filter(self, feed, where):
        """Gives a feed another filter for all that is sent from now on."""
        self.wiring = self.wiring.with_filter(feed, where)

    def rows_sent(self, feed, box):
        """The list of the rows of the source that pass the filter and whose keys pass a box, ascending by key."""
        line = self.wiring.line_of(feed)
        rows = self.holdings[line.source].rows
        if line.own:
            rows = [self.row_at_home(line.source, row) for row in self.truths[line.source].rows]
        return [row for row in rows if line.passes(row) and self.is_in_box(box, line.key_in(row))]

    def is_in_box(self, box, key):
        """Whether a key passes a box."""
        return truth_of(box.tree, dict(zip(self.wiring.table.key, key))) is True

    def send_deletes(self, feed, box):
        """Sends a delete for each row of a box."""
        line = self.wiring.line_of(feed)
        deletes = [("delete", line.key_in(row)) for row in self.rows_sent(feed, box)]
        self.queues[feed].messages.extend(deletes)

    def send_box(self, feed, box):
        """Sends all rows of a box in one message."""
        line = self.wiring.line_of(feed)
        rows = tuple([line.cut_down(row) for row in self.rows_sent(feed, box)])
        self.queues[feed].messages.append(("replace", box, rows))
