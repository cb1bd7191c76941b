"""Runs of nets, event by event."""

from speaklast.boxes import check_box, check_step
from speaklast.errors import InvalidChange, InvalidFall, InvalidStep, InvalidUndo
from speaklast.kinds import is_number
from speaklast.states import State
from speaklast.trials import Trial
from speaklast.wants import wanted_rows

MOST_DELIVERIES = 5000


class Run:
    """A net that runs: at first nothing is made, shown or sent."""

    def __init__(self, net):
        self.begun = net
        self.state = State(net)

    def make(self, site, word, thing):
        """Makes a change at a home; returns its stamp."""
        home = self.state.wiring.known_site(site)
        if not (isinstance(word, str) and word in ("insert", "update", "delete")):
            raise InvalidChange("word")
        if home.home is None:
            raise InvalidChange("region")
        stamp = self.state.make_change(site, word, thing)
        self.state.done.append(("make", site, word, thing))
        return stamp

    def deliver(self, feed):
        """Delivers the first pending message of a feed; returns the steps at the target."""
        self.state.wiring.known_feed(feed)
        steps = self.state.deliver_next(feed)
        self.state.done.append(("deliver", feed))
        return steps

    def fall(self, feed, *, back=1):
        """Sets the place of a feed back by some messages."""
        self.state.wiring.known_feed(feed)
        queue = self.state.queues[feed]
        if not (is_number(back) and 1 <= back <= queue.place - queue.lowest):
            raise InvalidFall(back)
        queue.place -= back
        self.state.done.append(("fall", feed, back))

    def leave(self, feed, box):
        """From now on the feed leaves out the rows of a box."""
        net = self.state.wiring
        check_box(net, feed, box)
        self.state.change_filter(feed, net.known_feed(feed).where & ~box)
        self.state.done.append(("leave", feed, box))

    def sweep(self, feed, box):
        """Deletes the rows of a box, and leaves them out from now on."""
        net = self.state.wiring
        check_box(net, feed, box)
        self.state.send_deletes(feed, box)
        self.state.change_filter(feed, net.known_feed(feed).where & ~box)
        self.state.done.append(("sweep", feed, box))

    def copy(self, feed, box):
        """Sends the rows of a box as they are, and all that happens to them from now on."""
        net = self.state.wiring
        check_box(net, feed, box)
        self.state.change_filter(feed, net.known_feed(feed).where | box)
        self.state.send_box(feed, box)
        self.state.done.append(("copy", feed, box))

    def again(self, feed, box):
        """Sends the rows of a box as they are, with the filter as it is."""
        check_box(self.state.wiring, feed, box)
        self.state.send_box(feed, box)
        self.state.done.append(("again", feed, box))

    def rest(self, feed):
        """From now on the feed never falls back to what was sent before."""
        check_step(self.state.wiring, feed)
        queue = self.state.queues[feed]
        if queue.has_next():
            raise InvalidStep("pending")
        queue.lowest = queue.place
        self.state.done.append(("rest", feed))

    def pending(self, feed):
        """The tuple of the pending messages of a feed."""
        self.state.wiring.known_feed(feed)
        queue = self.state.queues[feed]
        return tuple(queue.messages[queue.place:])

    def sent(self, feed):
        """How many messages were ever sent on a feed."""
        self.state.wiring.known_feed(feed)
        return len(self.state.queues[feed].messages)

    def held(self, site):
        """The tuple of the rows that a site shows, ascending by key."""
        self.state.wiring.known_site(site)
        return self.state.holdings[site].rows

    def made(self, home):
        """The tuple of the rows that a home has made, ascending by key; none at any other site."""
        known = self.state.wiring.known_site(home)
        return () if known.home is None else self.state.truths[home].rows

    def wanted(self, site):
        """The tuple of the rows that a site wants, ascending by key."""
        return wanted_rows(self.state, site)

    def right(self, site):
        """Whether a site shows just the rows that it wants."""
        return self.held(site) == self.wanted(site)

    @property
    def net(self):
        """The net with the filters as they are now."""
        return self.state.wiring

    @property
    def resting(self):
        """Whether no feed has a pending message that can be delivered."""
        return not any([self.state.can_deliver(feed) for feed in self.state.wiring.feeds])

    @property
    def stuck(self):
        """The tuple of the names of the feeds that wait, in order."""
        return tuple([feed for feed in self.state.wiring.feeds if self.state.is_held_up(feed)])

    def settle(self, *feeds):
        """Delivers feed by feed, round by round, until a whole round delivers nothing."""
        for feed in feeds:
            self.state.wiring.known_feed(feed)
        order = feeds if feeds else self.state.wiring.feeds
        many = 0
        goes_on = True
        while goes_on:
            goes_on = False
            for feed in order:
                if many < MOST_DELIVERIES and self.state.can_deliver(feed):
                    goes_on = True
                    many += 1
                    steps = self.deliver(feed)
                    yield (feed, steps)

    def events(self):
        """All that was done, in order."""
        for event in list(self.state.done):
            yield event

    def undo(self, count=1):
        """Takes back the last events."""
        done = self.state.done
        if not (is_number(count) and 0 <= count <= len(done)):
            raise InvalidUndo(count)
        fresh = Run(self.begun)
        for event in done[:len(done) - count]:
            do_event(fresh, event)
        self.state = fresh.state

    def twin(self):
        """An equal run of its own."""
        other = Run(self.begun)
        other.state = self.state.copied()
        return other

    def trial(self):
        """For a with block, behind which the run is as it was when the block began."""
        return Trial(self)

    def on_trial(self, events):
        """What all sites would show behind these events; the run stays as it is."""
        other = self.twin()
        for event in events:
            do_event(other, event)
        return {site: other.held(site) for site in other.state.wiring.sites}

    def __eq__(self, other):
        return isinstance(other, Run) and self.begun == other.begun and self.state.done == other.state.done

    def __len__(self):
        return len(self.state.done)


def play(run, events):
    """Does the events in order; if one of them raises an error, the run is as before."""
    other = run.twin()
    for event in events:
        do_event(other, event)
    run.state = other.state


def do_event(run, event):
    """Does one event."""
    word = event[0]
    if word == "make":
        run.make(event[1], event[2], event[3])
    elif word == "deliver":
        run.deliver(event[1])
    elif word == "fall":
        run.fall(event[1], back=event[2])
    elif word == "rest":
        run.rest(event[1])
    else:
        do_box_step(run, word, event[1], event[2])


def do_box_step(run, word, feed, box):
    """Does one step on a box."""
    if word == "leave":
        run.leave(feed, box)
    elif word == "sweep":
        run.sweep(feed, box)
    elif word == "copy":
        run.copy(feed, box)
    else:
        run.again(feed, box)
