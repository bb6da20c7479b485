"""Classes: their keys, the number of their worlds, and their worlds in class order."""

from turnbehind.errors import BadNumber, TooLarge
from turnbehind.fittings import least_fit
from turnbehind.names import check_number, whole
from turnbehind.parts import arrows, peopled, walker_names, way_names
from turnbehind.pictures import check_picture, firsts, make_picture
from turnbehind.reaches import check_live, dues, live_ways, reach, sizes_under
from turnbehind.standings import all_fillings, count_fillings, home_list, standing_of

MOST_LIVE = 8
MOST_MEMBERS = 200


def class_key(world):
    """The key, which is equal for exactly the worlds of one class."""
    live = live_ways(world)
    still = tuple([(way, head) for way, tail, head in arrows(world) if way not in live])
    homes = tuple(list(zip(walker_names(world), home_list(world))))
    return (world[0], dues(world), reach(world), still, homes)


def count_pointings(world):
    """The number of different heads of the worlds of the class; raises TooLarge."""
    check_live(world, MOST_LIVE)
    return len(pointings(world))


def pointings(world):
    """The ascending list of the heads of the worlds of the class."""
    live = live_ways(world)
    found = [()]
    for (way, low, high), head in zip(world[0][1], world[1]):
        ends = (low, high) if way in live else (head,)
        found = [(*heads, end) for heads in found for end in ends]
    return [heads for heads in found if min(sizes_under(world, heads)) >= 0]


def rooms_under(world, heads):
    """A dict from each place to the number of walkers there in the worlds of the class with these heads."""
    return {place: size for place, size in zip(world[0][0], sizes_under(world, heads))}


def counted(world):
    """The list of the pairs of heads of the class and the number of worlds that have them, in class order."""
    homes = home_list(world)
    return [(heads, count_fillings(homes, rooms_under(world, heads))) for heads in pointings(world)]


def count_class(world):
    """The number of worlds of the class; raises TooLarge."""
    check_live(world, MOST_LIVE)
    return sum([count for heads, count in counted(world)])


def count_fits(world, picture):
    """The number of worlds of the class that fit the picture; raises Unknown, BadEnd, TooLarge."""
    check_picture(world, picture)
    check_live(world, MOST_LIVE)
    return sum([count_told(world, picture, heads) for heads in pointings(world)])


def count_told(world, picture, heads):
    """The number of worlds of the class with these heads that show the picture."""
    told, numbers, spots = picture
    rooms = rooms_under(world, heads)
    homes = {name: home for name, home in zip(walker_names(world), home_list(world))}
    if not all([pair in list(zip(way_names(world[0]), heads)) for pair in told]):
        return 0
    if not all([rooms[place] == number for place, number in numbers]):
        return 0
    if not all([place in homes[name] for name, place in spots]):
        return 0
    others = [homes[name] for name in homes if name not in firsts(spots)]
    return count_fillings(others, rooms_left(rooms, [place for name, place in spots]))


def rooms_left(rooms, places):
    """The rooms that are left when a walker stands at each of these places, repeated ones included."""
    return {place: rooms[place] - places.count(place) for place in rooms}


def check_class(world, most):
    """Raises TooLarge if the world has too many live ways, or its class more worlds than a search can take."""
    count = count_class(world)
    if count > most:
        raise TooLarge("class", count)


def members(world):
    """The list of all worlds of the class, in class order; raises TooLarge."""
    check_class(world, MOST_MEMBERS)
    names = walker_names(world)
    found = []
    for heads in pointings(world):
        rooms = rooms_under(world, heads)
        for standing in all_fillings(home_list(world), rooms):
            found.append(peopled(world[0], heads, list(rooms.values()), list(zip(names, standing))))
    return found


def count_from(homes, rooms, standing):
    """The number of ways to go on from the places of the first names to a standing of all."""
    return count_fillings(homes[len(standing):], rooms_left(rooms, standing))


def rank_of(world):
    """The number of worlds of the class that stand before the world; raises TooLarge."""
    check_live(world, MOST_LIVE)
    homes = home_list(world)
    rooms = rooms_under(world, world[1])
    standing = standing_of(world)
    rank = sum([count for heads, count in counted(world) if heads < world[1]])
    for at, goal in enumerate(standing):
        lower = [standing[:at] + (place,) for place in homes[at] if place < goal]
        rank += sum([count_from(homes, rooms, told) for told in lower])
    return rank


def member(world, rank):
    """The world of the class that has this rank; raises BadNumber, TooLarge."""
    if not whole(rank) or rank < 0:
        raise BadNumber(rank)
    check_live(world, MOST_LIVE)
    rows = counted(world)
    counts = [count for heads, count in rows]
    check_number(rank, 0, sum(counts) - 1)
    at, left = found_at(counts, rank)
    heads = rows[at][0]
    rooms = rooms_under(world, heads)
    standing = standing_at(home_list(world), rooms, left)
    return peopled(world[0], heads, list(rooms.values()), list(zip(walker_names(world), standing)))


def found_at(counts, rank):
    """The pair of the number of the part in which the rank falls, and the rank within this part."""
    at = 0
    left = rank
    while left >= counts[at]:
        left = left - counts[at]
        at += 1
    return (at, left)


def standing_at(homes, rooms, rank):
    """The standing of this rank among those of the worlds with one pointing."""
    standing = ()
    left = rank
    for home in homes:
        at, left = found_at([count_from(homes, rooms, (*standing, place)) for place in home], left)
        standing = (*standing, home[at])
    return standing


def least_member(world):
    """The world of the class that has rank 0."""
    return least_fit(world, make_picture())
