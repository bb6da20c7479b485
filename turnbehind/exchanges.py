"""Meeting places, chains, and the exchange of two walkers."""

from turnbehind.deeds import crowd_at
from turnbehind.parts import check_places, occupied
from turnbehind.reaches import come_to, pointed, region_of, road, shortest, steps_from
from turnbehind.worlds import place_of, rename_world


def meeting(world, place, other):
    """The least place that can be come to from both places, or None; raises Unknown."""
    check_places(world, (place, other))
    theirs = come_to(world, other)
    for spot in come_to(world, place):
        if spot in theirs:
            return spot
    return None


def find_chain(world, place, other):
    """A chain of the fewest places from the one to the other, or None; raises Unknown."""
    check_places(world, (place, other))
    spots = occupied(world)
    if place not in spots or other not in spots:
        return None
    meets = meeting_pairs(world, spots)
    links = shortest([(two, one, two) for one, two in meets], place, other)
    return None if links is None else (place, *links)


def meeting_pairs(world, spots):
    """The ascending list of all pairs of these places that meet somewhere."""
    return [(one, two) for one in spots for two in spots if meeting(world, one, two) is not None]


def is_chain(world, place, other, chain):
    """True if the any value is a chain from the one place to the other; raises Unknown."""
    check_places(world, (place, other))
    if not isinstance(chain, tuple) or len(chain) == 0:
        return False
    spots = occupied(world)
    if not all([spot in spots for spot in chain]):
        return False
    meets = meeting_pairs(world, spots)
    if not all([pair in meets for pair in zip(chain, chain[1:])]):
        return False
    return chain[0] == place and chain[-1] == other


def exchanged(world, one, other):
    """The world in which two named walkers have exchanged their places, or None; raises Unknown."""
    start = place_of(world, one)
    goal = place_of(world, other)
    if region_of(world, start) != region_of(world, goal):
        return None
    if one == other:
        return world
    return rename_world(world, walkers=[(one, other), (other, one)])


def find_exchange(world, one, other):
    """A history that leads to the world with the two walkers exchanged, or None; raises Unknown."""
    start = place_of(world, one)
    return exchange_deeds(world, (start, one), (place_of(world, other), other))


def exchange_deeds(world, first, second):
    """A history that exchanges two walkers (place, walker), named or alike, or None if there is none."""
    place, one = first
    spot, other = second
    chain = find_chain(world, place, spot)
    if chain is None:
        return None
    last = len(chain) - 1
    between = [some_walker(world, spot) for spot in chain[1:last]]
    walkers = [one, *between, other]
    deeds = []
    for at in range(last):
        deeds.extend(swap(world, (chain[at], one), (chain[at + 1], walkers[at + 1])))
    # Now each walker between stands one place too early, and the way back of the other one moves it on again.
    for at in range(last - 1, 0, -1):
        deeds.extend(swap(world, (chain[at], other), (chain[at - 1], walkers[at])))
    return tuple(deeds)


def some_walker(world, place):
    """A walker of a place where one stands: None for an alike one, otherwise the least name."""
    alike, names = crowd_at(world, place)
    return None if alike > 0 else names[0]


def swap(world, first, second):
    """The deeds by which two walkers (place, walker), whose places meet, come to stand where the other one stood."""
    place, walker = first
    spot, partner = second
    middle = nearest_meeting(world, place, spot)
    ours = road(world, place, middle)
    theirs = road(world, spot, middle)
    coming = [(way, walker) for way in ours] + [(way, partner) for way in theirs]
    return coming + [(way, walker) for way in theirs[::-1]] + [(way, partner) for way in ours[::-1]]


def nearest_meeting(world, place, other):
    """The place where two places meet with the fewest steps in all."""
    # Least roads to this place share no other place: that one would take fewer steps.
    ours = steps_from(pointed(world), [place])
    theirs = steps_from(pointed(world), [other])
    return min([(ours[spot] + theirs[spot], spot) for spot in ours if spot in theirs])[1]
