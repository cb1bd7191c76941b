"""All orders of deliveries of small nets, with all histories of a few changes: what can end wrong at all."""

from speaklast.errors import InvalidChange
from speaklast.runs import Run


def shortened(run):
    """A twin without what was done before, where no fall can bring it back."""
    twin = run.twin()
    twin.state.done = []
    for queue in twin.state.queues.values():
        queue.messages, queue.place = queue.messages[queue.place:], 0
    return twin


class Orders:
    """Walks through all that a net can come to with at most so many of these changes, and falls if they are asked."""

    def __init__(self, net, changes, most, falls=0, limit=500):
        self.net, self.changes, self.most, self.limit = net, changes, most, limit
        self.seen = {}
        self.least = None
        self.done = True
        self.walk(Run(net), 0, falls)

    def key(self, run, many, falls):
        state = run.state
        shown = []
        for site in self.net.sites:
            holding = state.holdings[site]
            shares = tuple(sorted((name, tuple(sorted(rows.items()))) for name, rows in getattr(holding, "shares", {}).items()))
            shown.append((tuple(sorted(holding.shown.items())), shares, tuple(sorted(getattr(holding, "stamps", {}).items()))))
        made = tuple((run.made(home), tuple(sorted(state.truths[home].stamps))) for home in self.net.homes)
        stamps = tuple(state.truths[home].stamp for home in self.net.homes)
        queues = tuple((tuple(state.queues[feed].messages), state.queues[feed].place) if falls else run.pending(feed)
                       for feed in self.net.feeds)
        return (many, falls, made, stamps, tuple(shown), queues)

    def wrong(self, many):
        self.least = many if self.least is None else min(self.least, many)

    def walk(self, run, many, falls):
        """Looks at a state and all that comes of it; a state that comes back while only messages go on never rests."""
        key = self.key(run, many, falls)
        if key in self.seen:
            if self.seen[key] == "open":
                self.wrong(many)
            return
        if len(self.seen) >= self.limit:
            self.done = False
            return
        self.seen[key] = "open"
        deliverable = [feed for feed in self.net.feeds if run.state.can_deliver(feed)]
        for feed in deliverable:
            after = run.twin() if falls else shortened(run)
            after.deliver(feed)
            self.walk(after, many, falls)
        if not deliverable and (run.stuck or not all(run.right(site) for site in self.net.sites)):
            self.wrong(many)
        for after in self.fallen(run, falls):
            self.walk(after, many, falls - 1)
        if many < self.most:
            for home, word, thing in self.changes:
                after = run.twin()
                try:
                    after.make(home, word, thing)
                except InvalidChange:
                    continue
                self.walk(after, many + 1, falls)
        self.seen[key] = "closed"

    def fallen(self, run, falls):
        found = []
        for feed in self.net.feeds if falls else ():
            for back in range(1, run.sent(feed) - len(run.pending(feed)) + 1):
                after = run.twin()
                after.fall(feed, back=back)
                found.append(after)
        return found
