"""Changes of a world, and what becomes of its class."""

from turnbehind.classes import check_class, class_key, members
from turnbehind.deeds import crowd_at, with_walker, without_walker
from turnbehind.errors import BadEnd, BadSize, NoWalker, Repeated, TooLarge
from turnbehind.names import check_names, fresh_name
from turnbehind.papers import comes_of
from turnbehind.parts import MOST_WALKERS, MOST_WAYS
from turnbehind.parts import arrows, check_like, check_places, crowd_sizes, lifted, walker_names, way_at, way_names
from turnbehind.worlds import head_of, ordered_ways, place_of, tail_of

MOST_SPLIT = 100
MOST_JOINED = 6
# By whether two worlds are in one class before the change, and after it.
FATES = {
    (True, True): "stay together",
    (True, False): "fall apart",
    (False, True): "join",
    (False, False): "stay apart",
}


def changed(world, change):
    """The world after the change; raises BadName, BadSize, Repeated, Unknown, BadEnd, NoWalker."""
    check_change([world], change)
    check_standing([world], change)
    return made_change(world, change)


def check_change(worlds, change):
    """Raises the first error but NoWalker and Unlike that the change of all these worlds is due to raise."""
    if change[0] == "lay":
        check_lay(worlds, change)
    elif change[0] == "lift":
        for world in worlds:
            way_at(world[0], change[1])
    elif change[0] == "come":
        check_come(worlds, change)
    else:
        check_gone(worlds, change)


def check_lay(worlds, change):
    """Raises BadName, BadSize, Repeated, Unknown or BadEnd if the way cannot be laid in each of the worlds."""
    _, way, tail, head = change
    check_names([way])
    for world in worlds:
        check_way_room(world)
    for world in worlds:
        if way in way_names(world[0]):
            raise Repeated(way)
    for world in worlds:
        check_places(world, (tail, head))
    if tail == head:
        raise BadEnd(way, tail)


def check_way_room(world):
    """Raises BadSize if the world has as many ways as it may have."""
    size = len(world[0][1]) + 1
    if size > MOST_WAYS:
        raise BadSize("ways", size)


def check_come(worlds, change):
    """Raises BadName, BadSize, Repeated or Unknown if the walker cannot come to each of the worlds."""
    _, place, name = change
    if name is not None:
        check_names([name])
    for world in worlds:
        size = sum(crowd_sizes(world)) + 1
        if size > MOST_WALKERS:
            raise BadSize("walkers", size)
    for world in worlds:
        if name in walker_names(world):
            raise Repeated(name)
    for world in worlds:
        check_places(world, (place,))


def check_gone(worlds, change):
    """Raises Unknown for the place and then for the name, world after world."""
    _, place, name = change
    for world in worlds:
        check_places(world, (place,))
        if name is not None:
            place_of(world, name)


def check_standing(worlds, change):
    """Raises NoWalker if the walker that the change takes away does not stand there in each of the worlds."""
    if change[0] == "gone":
        for world in worlds:
            if not stands_at(world, change[1], change[2]):
                raise NoWalker(change[1])


def stands_at(world, place, name):
    """True if the named walker, or an alike one for None, stands at the place."""
    alike, names = crowd_at(world, place)
    return alike > 0 if name is None else name in names


def made_change(world, change):
    """The world after a change that is possible."""
    kind = change[0]
    if kind == "lay":
        return with_way(world, change[1:])
    if kind == "lift":
        return lifted(world, change[1])
    _, place, name = change
    pair = crowd_at(world, place)
    after = with_walker(pair, name) if kind == "come" else without_walker(pair, name)
    crowd = [after if spot == place else here for spot, here in zip(world[0][0], world[2])]
    return (world[0], world[1], tuple(crowd))


def with_way(world, row):
    """The world with one more way (way, tail, head)."""
    rows = sorted([*arrows(world), row])
    return ((world[0][0], ordered_ways(rows)), tuple([head for way, tail, head in rows]), world[2])


def back_change(world, change):
    """The change that leads back from the changed world; raises as changed."""
    changed(world, change)
    kind = change[0]
    if kind == "lay":
        return ("lift", change[1])
    if kind == "lift":
        return ("lay", change[1], tail_of(world, change[1]), head_of(world, change[1]))
    return ("gone" if kind == "come" else "come", change[1], change[2])


def split_class(world, change):
    """The list of the groups of ranks into which the change splits the class; raises as changed, and TooLarge."""
    check_change([world], change)
    check_class(world, MOST_SPLIT)
    groups = {}
    for rank, now in enumerate(members(world)):
        if change[0] != "gone" or stands_at(now, change[1], change[2]):
            groups.setdefault(class_key(made_change(now, change)), []).append(rank)
    # A dict keeps the order in which its keys came, so the groups stand in the order of their first ranks.
    return [tuple(group) for group in groups.values()]


def fate(one, other, change):
    """What the change does to two worlds; raises as changed, and Unlike."""
    check_change([one, other], change)
    check_standing([one, other], change)
    check_like(one, other)
    after = comes_of(made_change(one, change), made_change(other, change))
    return FATES[(comes_of(one, other), after)]


def joining_lays(one, other):
    """The ascending list of the pairs (tail, head) of ways that join two worlds; raises BadSize, Unlike, TooLarge."""
    check_way_room(one)
    check_way_room(other)
    check_like(one, other)
    places = one[0][0]
    if len(places) > MOST_JOINED:
        raise TooLarge("places", len(places))
    way = fresh_name("w", way_names(one[0]))
    pairs = [(tail, head) for tail in places for head in places if tail != head]
    return [(tail, head) for tail, head in pairs if fate(one, other, ("lay", way, tail, head)) == "join"]
