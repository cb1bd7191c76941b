"""Wrong runs: with a few changes a site ends wrong, a feed waits for ever, or the net never comes to rest."""

from speaklast.endings import are_events, holds, played
from speaklast.kinds import is_tuple_of, is_word
from speaklast.rules import failings, least_that_agree
from speaklast.scenes import scenes_of
from speaklast.showing import common_cell, wrong_run_for


def wrong_run(net, *, falls=False):
    """A wrong run of the net, or None if it is right."""
    for scene in scenes_of(net):
        wrong = wrong_run_for(scene, falls)
        if wrong is not None:
            return wrong
    return None


def shows_wrong(net, thing, *, falls=False):
    """Whether any value is a wrong run of the net."""
    if not (is_tuple_of(thing, 3) and is_word(thing[0], "wrong")):
        return False
    if not are_events(thing[1], 1 if falls else 0):
        return False
    run = played(net, thing[1])
    return run is not None and holds(run, thing[2])


def fewest_changes(net, *, falls=False):
    """The least number of changes in a wrong run of the net; 0 if it is right."""
    kinds = [failing[0] for failing in failings(net, falls=falls)]
    if not kinds:
        return 0
    places = []
    for scene in scenes_of(net):
        places.extend(scene.all_places())
    if any([fails_at_once(place, falls) for place in places]):
        return 1
    if "ring" in kinds or any([fails_by_update(place) for place in places]):
        return 2
    return 3


def fails_at_once(place, falls):
    """Whether one insert is enough: it comes twice to a site that waits."""
    if place.word != "wait":
        return False
    falling = falls and len([speaker for speaker in place.voices if speaker != ""]) > 0
    return falling or common_cell(place) is not None


def fails_by_update(place):
    """Whether an insert and an update are enough: the cells of a failing agree in the key and the fixed columns."""
    if place.word in ("shares", "stamped"):
        return False
    spots = place.spots_of(place.table.key + place.table.fixed)
    return any([least_that_agree(place, one, other, spots) is not None for one, other in place.pairs()])
