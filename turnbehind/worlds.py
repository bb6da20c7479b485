"""Webs of places and ways, and worlds: webs whose ways point and on which walkers stand."""

from turnbehind.bags import Bag
from turnbehind.errors import BadEnd, BadSize, Unknown
from turnbehind.names import check_names, check_number, check_once, first_repeated, is_name, whole
from turnbehind.parts import FEWEST_PLACES, MOST_PLACES, MOST_WALKERS, MOST_WAYS
from turnbehind.parts import alike_spots, arrows, check_like, crowd_sizes, name_spots, place_at
from turnbehind.parts import walker_names, way_at, way_names


def make_web(places, ways):
    """The web with these places and ways; raises BadName, BadSize, Repeated, Unknown, BadEnd."""
    new_ways = [row[0] for row in ways]
    check_names(places)
    check_names(new_ways)
    if not FEWEST_PLACES <= len(places) <= MOST_PLACES:
        raise BadSize("places", len(places))
    if len(ways) > MOST_WAYS:
        raise BadSize("ways", len(ways))
    check_once(places)
    check_once(new_ways)
    check_way_ends(places, ways)
    return (tuple(sorted(places)), ordered_ways(ways))


def check_way_ends(places, ways):
    """Raises Unknown for the first end that is no place, otherwise BadEnd for the first loop."""
    for _, one, other in ways:
        for end in (one, other):
            if end not in places:
                raise Unknown("place", end)
    for way, one, other in ways:
        if one == other:
            raise BadEnd(way, one)


def ordered_ways(ways):
    """The ways in way order, each with its lower end first."""
    return tuple(sorted([(way, min(one, other), max(one, other)) for way, one, other in ways]))


def make_world(web, *, heads=(), alike=(), named=()):
    """The world with these heads and walkers; raises BadName, BadNumber, BadSize, Repeated, Unknown, BadEnd."""
    check_names([name for name, place in named])
    for _, number in alike:
        check_number(number, 0, MOST_WALKERS)
    size = sum([number for place, number in alike]) + len(named)
    if size > MOST_WALKERS:
        raise BadSize("walkers", size)
    for pairs in (heads, alike, named):
        check_once([pair[0] for pair in pairs])
    check_told(web, heads, alike, named)
    return (web, told_heads(web, heads), told_crowd(web, alike, named))


def check_told(web, heads, alike, named):
    """Raises Unknown for the first way or place that is not in the web, otherwise BadEnd for the first wrong head."""
    for way, place in heads:
        way_at(web, way)
        place_at(web, place)
    for place, _ in alike:
        place_at(web, place)
    for _, place in named:
        place_at(web, place)
    check_head_ends(web, heads)


def check_head_ends(web, heads):
    """Raises BadEnd for the first pair (way, place) of the web whose place is not an end of its way."""
    for way, place in heads:
        _, low, high = web[1][way_at(web, way)]
        if place not in (low, high):
            raise BadEnd(way, place)


def told_heads(web, heads):
    """The tuple of all heads; a way of which none is told points to its higher end."""
    table = {way: place for way, place in heads}
    return tuple([table.get(way, high) for way, low, high in web[1]])


def told_crowd(web, alike, named):
    """The tuple of the pairs (alike, names), in place order."""
    table = {place: number for place, number in alike}
    crowd = []
    for place in web[0]:
        names = sorted([name for name, spot in named if spot == place])
        crowd.append((table.get(place, 0), tuple(names)))
    return tuple(crowd)


def is_world(value):
    """True if the any value is a world that make_world can return."""
    if not tuple_of(value, 3):
        return False
    web, heads, crowd = value
    return right_web(web) and right_heads(web, heads) and right_crowd(web, crowd)


def tuple_of(value, size):
    """True if the any value is a tuple of so many items."""
    return isinstance(value, tuple) and len(value) == size


def right_names(value):
    """True if the any value is an ascending tuple of names."""
    if not isinstance(value, tuple) or not all([is_name(name) for name in value]):
        return False
    return list(value) == sorted(set(value))


def right_web(web):
    """True if the any value is a web."""
    if not tuple_of(web, 2):
        return False
    places, ways = web
    if not right_names(places) or not FEWEST_PLACES <= len(places) <= MOST_PLACES:
        return False
    if not isinstance(ways, tuple) or len(ways) > MOST_WAYS:
        return False
    return all([right_way(places, row) for row in ways]) and right_names(tuple(way_names(web)))


def right_way(places, row):
    """True if the any value is a way between two of the places."""
    if not tuple_of(row, 3):
        return False
    _, low, high = row
    return low in places and high in places and low < high


def right_heads(web, heads):
    """True if the any value tells one of its ends for each way of the web."""
    if not tuple_of(heads, len(web[1])):
        return False
    return all([head in (low, high) for (way, low, high), head in zip(web[1], heads)])


def right_crowd(web, crowd):
    """True if the any value tells the walkers at each place of the web, each name once, and not too many in all."""
    if not tuple_of(crowd, len(web[0])) or not all([right_pair(pair) for pair in crowd]):
        return False
    size = sum([alike + len(names) for alike, names in crowd])
    names = [name for pair in crowd for name in pair[1]]
    return size <= MOST_WALKERS and first_repeated(names) is None


def right_pair(pair):
    """True if the any value tells the walkers at one place."""
    if not tuple_of(pair, 2):
        return False
    alike, names = pair
    return whole(alike) and alike >= 0 and right_names(names)


def names_of(world):
    """The ascending tuple of the names of all named walkers."""
    return tuple(walker_names(world))


def head_of(world, way):
    """The place to which the way points; raises Unknown."""
    return arrows(world)[way_at(world[0], way)][2]


def tail_of(world, way):
    """The place from which the way points; raises Unknown."""
    return arrows(world)[way_at(world[0], way)][1]


def place_of(world, name):
    """The place where the named walker stands; raises Unknown."""
    for walker, place in name_spots(world):
        if walker == name:
            return place
    raise Unknown("walker", name)


def bag_at(world, place):
    """The bag of the walkers at the place; raises Unknown."""
    alike, names = world[2][place_at(world[0], place)]
    return Bag(alike, names)


def all_walkers(world):
    """The bag of all walkers."""
    return Bag(sum([alike for alike, names in world[2]]), walker_names(world))


def unnamed(world):
    """The world with each named walker made an alike walker at its place."""
    return (world[0], world[1], tuple([(size, ()) for size in crowd_sizes(world)]))


def differing(one, other):
    """The ascending tuple of the ways whose heads differ in two worlds; raises Unlike."""
    check_like(one, other)
    return tuple([way for way, head, turned in zip(way_names(one[0]), one[1], other[1]) if head != turned])


def rename_world(world, *, places=(), ways=(), walkers=()):
    """The world with other names; raises BadName, Repeated, Unknown."""
    known = (list(world[0][0]), way_names(world[0]), walker_names(world))
    renamings = (places, ways, walkers)
    for pairs in renamings:
        check_names([new for old, new in pairs])
    for names, pairs in zip(known, renamings):
        check_renaming(names, pairs)
    for what, names, pairs in zip(("place", "way", "walker"), known, renamings):
        for old, _ in pairs:
            if old not in names:
                raise Unknown(what, old)
    tables = [renaming(names, pairs) for names, pairs in zip(known, renamings)]
    return renamed(world, tables[0], tables[1], tables[2])


def renaming(names, pairs):
    """A dict from each of the names to its new name."""
    table = {old: new for old, new in pairs}
    return {name: table.get(name, name) for name in names}


def check_renaming(names, pairs):
    """Raises Repeated for an old name that is told twice, or for the least name that two things would have."""
    check_once([old for old, new in pairs])
    table = renaming(names, pairs)
    # In ascending order the first name that comes again is the least of all that do.
    check_once(sorted([table[name] for name in names]))


def renamed(world, places, ways, walkers):
    """The world whose names are replaced by those that the dicts tell."""
    web, heads, _ = world
    new_web = make_web(
        [places[place] for place in web[0]],
        [(ways[way], places[low], places[high]) for way, low, high in web[1]],
    )
    return make_world(
        new_web,
        heads=[(ways[way], places[head]) for way, head in zip(way_names(web), heads)],
        alike=[(places[place], number) for place, number in alike_spots(world)],
        named=[(walkers[name], places[place]) for name, place in name_spots(world)],
    )


def mirror(world):
    """The world with each way turned and the same walkers."""
    return (world[0], tuple([tail for way, tail, head in arrows(world)]), world[2])


def beside(one, other):
    """The world that has the places, ways and walkers of both; raises BadSize, Repeated."""
    places = one[0][0] + other[0][0]
    ways = one[0][1] + other[0][1]
    check_joint_size("places", len(places), MOST_PLACES)
    check_joint_size("ways", len(ways), MOST_WAYS)
    check_joint_size("walkers", sum(crowd_sizes(one)) + sum(crowd_sizes(other)), MOST_WALKERS)
    # The parts of each world ascend, so the first repeated name is the least that both have.
    return make_world(
        make_web(places, ways),
        heads=[(way, head) for way, tail, head in arrows(one) + arrows(other)],
        alike=alike_spots(one) + alike_spots(other),
        named=name_spots(one) + name_spots(other),
    )


def check_joint_size(what, size, most):
    """Raises BadSize if the sum of two sizes is above the most that one world may have."""
    if size > most:
        raise BadSize(what, size)
