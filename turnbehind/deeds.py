"""Deeds: a walker walks a way and thereby turns it."""

from turnbehind.errors import NoDeed, Unknown
from turnbehind.parts import arrows, walker_names, way_at, way_names


def can_go(world, way, walker=None):
    """True if the deed is possible; raises Unknown."""
    check_deeds(world, [(way, walker)])
    return refusal(world, way, walker) is None


def go(world, way, walker=None):
    """The world after the deed; raises Unknown, NoDeed."""
    check_deeds(world, [(way, walker)])
    cause = refusal(world, way, walker)
    if cause is not None:
        raise NoDeed(0, way, cause)
    return walked(world, way, walker)


def moves(world):
    """The list of all possible deeds, in way order, and for each way an alike walker before the named ones."""
    found = []
    for way, tail, _ in arrows(world):
        alike, names = crowd_at(world, tail)
        if alike > 0:
            found.append((way, None))
        found.extend([(way, name) for name in names])
    return found


def check_deeds(world, deeds):
    """Raises Unknown for the first way or walker of the deeds that is not in the world."""
    ways = way_names(world[0])
    names = walker_names(world)
    for way, walker in deeds:
        if way not in ways:
            raise Unknown("way", way)
        if walker is not None and walker not in names:
            raise Unknown("walker", walker)


def crowd_at(world, place):
    """The pair (alike, names) of the walkers at a place of the world."""
    return world[2][world[0][0].index(place)]


def refusal(world, way, walker):
    """The cause for which a deed of this way and walker of the world is refused, or None if it is possible."""
    _, tail, _ = arrows(world)[way_at(world[0], way)]
    alike, names = crowd_at(world, tail)
    if walker is None:
        return None if alike > 0 else "nobody"
    return None if walker in names else "elsewhere"


def walked(world, way, walker):
    """The world after a deed that is possible."""
    web, heads, crowd = world
    at = way_at(web, way)
    _, tail, head = arrows(world)[at]
    places = web[0]
    new_heads = list(heads)
    new_heads[at] = tail
    new_crowd = list(crowd)
    new_crowd[places.index(tail)] = without_walker(crowd_at(world, tail), walker)
    new_crowd[places.index(head)] = with_walker(crowd_at(world, head), walker)
    return (web, tuple(new_heads), tuple(new_crowd))


def with_walker(pair, walker):
    """The walkers of a place and this one."""
    alike, names = pair
    if walker is None:
        return (alike + 1, names)
    return (alike, tuple(sorted([*names, walker])))


def without_walker(pair, walker):
    """The walkers of a place but this one."""
    alike, names = pair
    if walker is None:
        return (alike - 1, names)
    return (alike, tuple([name for name in names if name != walker]))
