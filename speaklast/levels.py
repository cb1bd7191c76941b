"""The rows of papers: which cells are asked, each with the number of feeds on its shortest way."""

from speaklast.cells import Grid
from speaklast.sieves import Sieve


def paper_rows(net):
    """The tuple of the rows of a paper, home by home and feed by feed."""
    sieve = Sieve(Grid(net))
    found = []
    for home in net.homes:
        numbers = numbers_for(net, sieve, home)
        for feed in net.feeds:
            told = numbers[feed]
            found.append((home, feed, tuple([(cell, told[cell]) for cell in sorted(list(told))])))
    return tuple(found)


def numbers_for(net, sieve, home):
    """The dict from all feeds to the dicts from the asked cells of a home to their numbers."""
    made = sieve.passing(net.known_home(home).home.tree)
    passing = {line.name: sieve.passing(line.tree) for line in net.lines()}
    brought = {feed: 0 for feed in net.feeds}
    at_sites = {site: 0 for site in net.sites}
    at_sites[home] = made
    numbers = {feed: {} for feed in net.feeds}
    number = 0
    grown = True
    while grown:
        number += 1
        # All feeds of a round look at what came before it: so numbers go up along each way.
        fresh = {}
        for line in net.lines():
            told = at_sites[line.source]
            if line.own:
                told = made if line.source == home else 0
            fresh[line.name] = told & passing[line.name] & ~brought[line.name]
        for line in net.lines():
            new = fresh[line.name]
            brought[line.name] = brought[line.name] | new
            at_sites[line.target] = at_sites[line.target] | new
            for cell in sieve.cells_in(new):
                numbers[line.name][cell] = number
        grown = any([new > 0 for new in fresh.values()])
    return numbers
