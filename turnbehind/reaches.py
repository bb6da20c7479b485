"""What walkers can come to, and what no deed changes."""

from turnbehind.errors import TooLarge
from turnbehind.parts import arrows, arrows_to, ascending_part, check_like, check_places, crowd_sizes, name_spots
from turnbehind.parts import occupied, place_at
from turnbehind.worlds import differing, place_of


def dues(world):
    """The tuple of the dues of all places, in place order."""
    tails = [tail for way, tail, head in arrows(world)]
    return tuple([tails.count(place) - size for place, size in zip(world[0][0], crowd_sizes(world))])


def due(world, place):
    """The due of the place; raises Unknown."""
    at = place_at(world[0], place)
    return dues(world)[at]


def sizes_under(world, heads):
    """The number of walkers at each place, in place order, that the dues leave if the ways point to these heads."""
    tails = [tail for way, tail, head in arrows_to(world[0], heads)]
    return [tails.count(place) - owed for place, owed in zip(world[0][0], dues(world))]


def steps_from(steps, origins):
    """A dict from each place that can be come to from the origins to the fewest steps (tail, head) that lead to it."""
    far = {place: 0 for place in origins}
    line = list(origins)
    at = 0
    while at < len(line):
        for tail, head in steps:
            if tail == line[at] and head not in far:
                far[head] = far[tail] + 1
                line.append(head)
        at += 1
    return far


def pointed(world):
    """The pairs (tail, head) of all ways, in way order."""
    return [(tail, head) for way, tail, head in arrows(world)]


def come_to(world, origin):
    """The ascending list of the places that can be come to from the origin."""
    return sorted(list(steps_from(pointed(world), [origin])))


def reach(world):
    """The ascending tuple of the places that some walker can come to."""
    return tuple(sorted(list(steps_from(pointed(world), occupied(world)))))


def regions(world):
    """The tuple of the regions, ordered by their first places."""
    within = reach(world)
    return linked([(tail, head) for tail, head in pointed(world) if tail in within and head in within], within)


def linked(steps, places):
    """The tuple of the parts into which the ascending places fall when steps, whichever way, link them."""
    back = [(head, tail) for tail, head in steps]
    parts = []
    told = []
    for place in places:
        if place not in told:
            part = sorted(list(steps_from(steps + back, [place])))
            parts.append(tuple(part))
            told.extend(part)
    return tuple(parts)


def region_of(world, place):
    """The region in which the place is, or None if it is not in the reach; raises Unknown."""
    place_at(world[0], place)
    for region in regions(world):
        if place in region:
            return region
    return None


def live_ways(world):
    """The ascending tuple of the ways with both ends in the reach."""
    within = reach(world)
    return tuple([way for way, tail, head in arrows(world) if tail in within and head in within])


def still_ways(world):
    """The ascending tuple of the ways that are not live."""
    live = live_ways(world)
    return tuple([way for way, tail, head in arrows(world) if way not in live])


def check_live(world, most):
    """Raises TooLarge if the world has more live ways than a search can take."""
    size = len(live_ways(world))
    if size > most:
        raise TooLarge("live", size)


def can_come(world, origin, place):
    """True if the place can be come to from the origin; raises Unknown."""
    check_places(world, (origin, place))
    return place in come_to(world, origin)


def road(world, origin, place):
    """The least road from the origin to the place, or None if there is none; raises Unknown."""
    check_places(world, (origin, place))
    return shortest(arrows(world), origin, place)


def shortest(rows, origin, place):
    """Of rows (word, tail, head), ascending, the least tuple of the fewest words that lead to the place, or None."""
    far = steps_from([(head, tail) for word, tail, head in rows], [place])
    if origin not in far:
        return None
    spot = origin
    words = []
    while spot != place:
        # The rows ascend, so the first one that comes nearer has the least word.
        nearer = [row for row in rows if row[1] == spot and far.get(row[2]) == far[spot] - 1]
        words.append(nearer[0][0])
        spot = nearer[0][2]
    return tuple(words)


def is_shore(world, places):
    """True if the any value is a shore of the world."""
    if not ascending_part(places, world[0][0]):
        return False
    if not all([place in places for place in occupied(world)]):
        return False
    return not any([tail in places and head not in places for tail, head in pointed(world)])


def broken(one, other):
    """The tuple of what a history from one to the other would have kept and that is not kept; raises Unlike."""
    check_like(one, other)
    still = still_ways(one)
    found = (
        ("dues", dues(one) != dues(other)),
        ("reach", reach(one) != reach(other)),
        ("still", any([way in still for way in differing(one, other)])),
        ("regions", any([place not in region_of(one, place_of(one, name)) for name, place in name_spots(other)])),
    )
    return tuple([word for word, holds in found if holds])
