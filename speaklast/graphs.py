"""Ways over arrows: an arrow is a pair of a source and a target."""


def reached_from(start, arrows):
    """The dict of all places to which a way of one or more arrows leads from start."""
    found = {}
    waiting = [start]
    while waiting:
        place = waiting.pop()
        for source, target in arrows:
            if source == place and target not in found:
                found[target] = True
                waiting.append(target)
    return found


def knots(places, arrows):
    """The largest sets of two or more places between any two of which a way leads, as tuples in order."""
    beyond = {place: reached_from(place, arrows) for place in places}
    found = []
    for at, place in enumerate(places):
        others = [other for other in places if other != place and other in beyond[place] and place in beyond[other]]
        # Each set is told once: at the first of its places.
        if others and not [other for other in others if other in places[:at]]:
            found.append(tuple([other for other in places if other == place or other in others]))
    return found
