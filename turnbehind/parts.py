"""The parts of webs and worlds that several modules look at, and the errors about them."""

from turnbehind.errors import Unknown, Unlike

FEWEST_PLACES = 2
MOST_PLACES = 10
MOST_WAYS = 14
MOST_WALKERS = 8


def way_names(web):
    """The names of the ways, in way order."""
    return [row[0] for row in web[1]]


def place_at(web, place):
    """The number of the place in place order; raises Unknown."""
    if place not in web[0]:
        raise Unknown("place", place)
    return web[0].index(place)


def way_at(web, way):
    """The number of the way in way order; raises Unknown."""
    names = way_names(web)
    if way not in names:
        raise Unknown("way", way)
    return names.index(way)


def check_places(world, places):
    """Raises Unknown for the first text that is no place of the world."""
    for place in places:
        place_at(world[0], place)


def arrows(world):
    """The triples (way, tail, head) of all ways, in way order."""
    return arrows_to(world[0], world[1])


def arrows_to(web, heads):
    """The triples (way, tail, head) of all ways if they point to these heads, in way order."""
    rows = []
    for (way, low, high), head in zip(web[1], heads):
        rows.append((way, high if head == low else low, head))
    return rows


def alike_spots(world):
    """The pairs (place, number) of the places where alike walkers stand, in place order."""
    return [(place, alike) for place, (alike, names) in zip(world[0][0], world[2]) if alike > 0]


def name_spots(world):
    """The pairs (name, place) of all named walkers, ascending."""
    return sorted([(name, place) for place, (alike, names) in zip(world[0][0], world[2]) for name in names])


def walker_names(world):
    """The names of all named walkers, ascending."""
    return [name for name, place in name_spots(world)]


def crowd_sizes(world):
    """The number of walkers at each place, in place order."""
    return [alike + len(names) for alike, names in world[2]]


def occupied(world):
    """The places where a walker stands, in place order."""
    return [place for place, size in zip(world[0][0], crowd_sizes(world)) if size > 0]


def ascending_part(value, places):
    """True if the any value is an ascending tuple of some of the places."""
    if not isinstance(value, tuple) or not all([place in places for place in value]):
        return False
    return list(value) == sorted(set(value))


def peopled(web, heads, sizes, spots):
    """The world with so many walkers at each place, of whom the named ones stand at these spots (name, place)."""
    crowd = []
    for place, size in zip(web[0], sizes):
        names = sorted([name for name, spot in spots if spot == place])
        crowd.append((size - len(names), tuple(names)))
    return (web, heads, tuple(crowd))


def lifted(world, way):
    """The world without the way; raises Unknown."""
    web, heads, crowd = world
    at = way_at(web, way)
    return ((web[0], web[1][:at] + web[1][at + 1:]), heads[:at] + heads[at + 1:], crowd)


def check_like(one, other):
    """Raises Unlike if two worlds do not have one web and the same names."""
    if one[0] != other[0]:
        raise Unlike("web")
    if walker_names(one) != walker_names(other):
        raise Unlike("names")
