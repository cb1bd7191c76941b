"""Judgements: whether a net ends right, with a paper or a wrong run that shows it."""

from speaklast.levels import paper_rows
from speaklast.wrongs import wrong_run


def judged(net, *, falls=False):
    """("right", rows) with a paper, or a wrong run of the net."""
    wrong = wrong_run(net, falls=falls)
    return ("right", paper_rows(net)) if wrong is None else wrong
