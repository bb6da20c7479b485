"""Standings: where the named walkers stand, and the exchanges that lead from one standing to another."""

from math import comb

from turnbehind.errors import BadSize, TooLarge
from turnbehind.exchanges import exchange_deeds
from turnbehind.parts import check_places, crowd_sizes, name_spots, peopled, walker_names
from turnbehind.reaches import region_of
from turnbehind.worlds import place_of

MOST_STANDINGS = 200


def standing_of(world):
    """The tuple of the places of the named walkers, in ascending order of their names."""
    return tuple([place for name, place in name_spots(world)])


def check_target(world, target):
    """Raises BadSize if the target does not tell one place for each name, otherwise Unknown for its first non-place."""
    if len(target) != len(walker_names(world)):
        raise BadSize("names", len(target))
    check_places(world, target)


def home_list(world):
    """The list of the regions in which the named walkers stand, in ascending order of their names."""
    return [region_of(world, place) for name, place in name_spots(world)]


def room_table(world):
    """A dict from each place to the number of walkers there."""
    return {place: size for place, size in zip(world[0][0], crowd_sizes(world))}


def can_stand(world, target):
    """True if the standing is possible; raises BadSize, Unknown."""
    check_target(world, target)
    rooms = room_table(world)
    if not all([target.count(place) <= rooms[place] for place in target]):
        return False
    return all([place in home for place, home in zip(target, home_list(world))])


def with_standing(world, target):
    """The world with this standing, or None if it is not possible; raises BadSize, Unknown."""
    if not can_stand(world, target):
        return None
    return peopled(world[0], world[1], crowd_sizes(world), list(zip(walker_names(world), target)))


def count_standings(world):
    """The number of possible standings."""
    return count_fillings(home_list(world), room_table(world))


def count_fillings(homes, rooms):
    """The number of ways to give each walker a place of its home, and no place more walkers than it has room for."""
    if min(rooms.values()) < 0:
        return 0
    total = 1
    # Homes are regions, so two of them are equal or have no place in common.
    for home in sorted(set(homes)):
        total = total * count_home(homes.count(home), [rooms[place] for place in home])
    return total


def count_home(many, rooms):
    """The number of ways to put so many different walkers into rooms of these sizes."""
    counts = [1] + [0] * many
    for room in rooms:
        counts = [
            sum([comb(size, here) * counts[size - here] for here in range(min(room, size) + 1)])
            for size in range(many + 1)
        ]
    return counts[many]


def standings(world):
    """The ascending list of all possible standings; raises TooLarge."""
    count = count_standings(world)
    if count > MOST_STANDINGS:
        raise TooLarge("standings", count)
    return all_fillings(home_list(world), room_table(world))


def all_fillings(homes, rooms):
    """The ascending list of the tuples that give each walker a place of its home, with room for all."""
    found = [()]
    for home in homes:
        found = [(*told, place) for told in found for place in home if told.count(place) < rooms[place]]
    return found


def find_standing(world, target):
    """A history that leads to the world with this standing, or None; raises BadSize, Unknown."""
    exchanges = find_exchanges(world, target)
    if exchanges is None:
        return None
    names = walker_names(world)
    now = world
    deeds = []
    for name, place, other in exchanges:
        deeds.extend(exchange_deeds(now, (place_of(now, name), name), (place, other)))
        now = with_standing(now, applied(names, standing_of(now), (name, place, other)))
    return tuple(deeds)


def fewest_exchanges(world, target):
    """The bounds (low, high) of the fewest exchanges that lead to the standing, or None; raises BadSize, Unknown."""
    if not can_stand(world, target):
        return None
    if count_standings(world) <= MOST_STANDINGS:
        size = len(searched(world, target))
        return (size, size)
    moved = len([place for place, goal in zip(standing_of(world), target) if place != goal])
    return ((moved + 1) // 2, moved)


def find_exchanges(world, target):
    """A tuple of exchanges that leads to the standing, or None; raises BadSize, Unknown."""
    if not can_stand(world, target):
        return None
    if count_standings(world) <= MOST_STANDINGS:
        return searched(world, target)
    return brought(world, target)


def searched(world, target):
    """The fewest exchanges that lead to a possible standing, by a search through all standings."""
    names = walker_names(world)
    homes = home_list(world)
    rooms = room_table(world)
    line = [standing_of(world)]
    found = {standing_of(world): ()}
    at = 0
    while tuple(target) not in found:
        now = line[at]
        for exchange in choices(names, now, homes, rooms):
            after = applied(names, now, exchange)
            if after not in found:
                found[after] = found[now] + (exchange,)
                line.append(after)
        at += 1
    return found[tuple(target)]


def brought(world, target):
    """Exchanges that bring one moved name after another to its place in a possible standing."""
    names = walker_names(world)
    rooms = room_table(world)
    now = standing_of(world)
    exchanges = []
    for at, place in enumerate(target):
        if now[at] != place:
            exchange = (names[at], place, unsettled(names, now, target, place, rooms[place]))
            exchanges.append(exchange)
            now = applied(names, now, exchange)
    return tuple(exchanges)


def unsettled(names, standing, target, place, room):
    """A walker of the place who may leave it: None for an alike one, or the least name that belongs elsewhere."""
    there = [(name, goal) for name, spot, goal in zip(names, standing, target) if spot == place]
    if len(there) < room:
        return None
    return [name for name, goal in there if goal != place][0]


def choices(names, standing, homes, rooms):
    """The list of all exchanges that can be applied when the names stand so."""
    found = []
    for name, spot, home in zip(names, standing, homes):
        for place in home:
            if place != spot:
                others = [other for other, there in zip(names, standing) if there == place]
                if len(others) < rooms[place]:
                    found.append((name, place, None))
                found.extend([(name, place, other) for other in others])
    return found


def applied(names, standing, exchange):
    """The standing after an exchange that can be applied."""
    name, place, other = exchange
    goals = {name: place}
    if other is not None:
        goals[other] = standing[names.index(name)]
    return tuple([goals.get(walker, spot) for walker, spot in zip(names, standing)])


def is_exchanges(world, target, exchanges):
    """True if the any value is a tuple of exchanges that lead to the standing; raises BadSize, Unknown."""
    if not can_stand(world, target) or not isinstance(exchanges, tuple):
        return False
    names = walker_names(world)
    homes = home_list(world)
    rooms = room_table(world)
    now = standing_of(world)
    for exchange in exchanges:
        if exchange not in choices(names, now, homes, rooms):
            return False
        now = applied(names, now, exchange)
    return now == tuple(target)
