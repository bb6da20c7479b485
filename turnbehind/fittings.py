"""Worlds of a class that fit a picture, bars where there is none, and what all of them have in common."""

from turnbehind.parts import MOST_WALKERS
from turnbehind.parts import peopled, place_at, walker_names
from turnbehind.pictures import check_known, check_picture, firsts, join_pictures, make_picture, needs_of, told_rows
from turnbehind.reaches import reach, region_of, shortest, sizes_under, steps_from, still_ways
from turnbehind.standings import home_list
from turnbehind.worlds import check_head_ends, head_of, place_of


def find_fit(world, picture):
    """A world that fits the picture, or None if there is none; raises Unknown, BadEnd."""
    check_picture(world, picture)
    rows, bar = fitted(world, picture)
    if bar is not None:
        return None
    return settled(world, picture, [head for way, tail, head, free in rows])


def find_bar(world, picture):
    """A bar for the picture, or None if some world fits; raises Unknown, BadEnd."""
    check_picture(world, picture)
    return fitted(world, picture)[1]


def fitted(world, picture):
    """The pair of the rows (way, tail, head, free) of a world that fits the picture, and None; or of None and a bar."""
    within = reach(world)
    bar = plain_bar(world, picture, within)
    if bar is not None:
        return (None, bar)
    needs = needs_of(world, picture)
    rows, lacking = supplied(told_rows(world, picture, within), needs)
    if lacking:
        return (None, ("asks", lacking, within))
    # Too many tails are too few heads: so the same search goes on in the mirror.
    told = firsts(picture[1])
    turned, crowded = supplied(mirrored(rows), {place: heads_needed(rows, place, needs, told) for place in needs})
    return (None, ("holds", crowded, within)) if crowded else (mirrored(turned), None)


def plain_bar(world, picture, within):
    """A bar of one of the three kinds that no other part of the picture bears upon, or None; within is the reach."""
    heads, counts, spots = picture
    for way, place in heads:
        if way in still_ways(world) and place != head_of(world, way):
            return ("still", way, within)
    for name, place in spots:
        home = region_of(world, place_of(world, name))
        if place not in home:
            return ("name", name, within, home)
    goals = [place for name, place in spots]
    for place, number in counts:
        if number < goals.count(place):
            return ("crowd", place)
    return None


def supplied(rows, needs):
    """The rows, with free ones turned until each place is the tail of as many as it needs, and ().

    If that cannot be, the tuple of some places that together need more than they can have stands in the place of ().
    """
    now = rows
    for place in needs:
        for _ in range(needs[place] - tail_count(now, place)):
            free = [row[:3] for row in now if row[3]]
            givers = list(steps_from([(head, tail) for way, tail, head in free], [place]))
            rich = [giver for giver in givers if tail_count(now, giver) > needs[giver]]
            if not rich:
                return (now, tuple(sorted(givers)))
            now = turned_rows(now, shortest(free, rich[0], place))
    return (now, ())


def tail_count(rows, place):
    """The number of rows whose tail the place is."""
    return len([row for row in rows if row[1] == place])


def turned_rows(rows, ways):
    """The rows with these ways turned."""
    return [(way, head, tail, free) if way in ways else (way, tail, head, free) for way, tail, head, free in rows]


def mirrored(rows):
    """The rows with all ways turned."""
    return turned_rows(rows, firsts(rows))


def heads_needed(rows, place, needs, told):
    """The number of heads with which the place is not the tail of more rows than a told number of walkers allows."""
    ways = [way for way, tail, head, free in rows if place in (tail, head)]
    return len(ways) - needs[place] if place in told else 0


def settled(world, picture, heads):
    """The world with these heads; a named walker stands as told, or else at the first free place of its region."""
    sizes = sizes_under(world, heads)
    rooms = {place: size for place, size in zip(world[0][0], sizes)}
    spots = list(picture[2])
    for name, home in zip(walker_names(world), home_list(world)):
        if name not in firsts(picture[2]):
            taken = [place for walker, place in spots]
            spots.append((name, [place for place in home if taken.count(place) < rooms[place]][0]))
    return peopled(world[0], tuple(heads), sizes, spots)


def joined(world, picture, parts):
    """The joint pictures of the picture and each of the parts, as far as some world fits them."""
    joint = [join_pictures(picture, part) for part in parts]
    return [told for told in joint if told is not None and fitted(world, told)[1] is None]


def least_fit(world, picture):
    """The world that fits the picture and stands first in class order, or None; raises Unknown, BadEnd."""
    check_picture(world, picture)
    if fitted(world, picture)[1] is not None:
        return None
    told = picture
    for way, low, high in world[0][1]:
        told = joined(world, told, [make_picture(heads=[(way, end)]) for end in (low, high)])[0]
    # Where all heads are told, the fit has the least standing: each name in turn gets the first place that is free.
    return find_fit(world, told)


def must_heads(world, picture):
    """The ascending pairs (way, place) of the heads that all worlds that fit have, or None; raises Unknown, BadEnd."""
    check_picture(world, picture)
    if fitted(world, picture)[1] is not None:
        return None
    found = []
    for way, low, high in world[0][1]:
        ends = [end for end in (low, high) if joined(world, picture, [make_picture(heads=[(way, end)])])]
        if len(ends) == 1:
            found.append((way, ends[0]))
    return tuple(found)


def span(world, picture, place):
    """The least and the greatest number of walkers at the place in worlds that fit, or None; raises Unknown, BadEnd."""
    check_known(world, picture)
    place_at(world[0], place)
    check_head_ends(world[0], picture[0])
    parts = [make_picture(counts=[(place, number)]) for number in range(MOST_WALKERS + 1)]
    told = [dict(joint[1])[place] for joint in joined(world, picture, parts)]
    return (min(told), max(told)) if told else None


def name_places(world, picture, name):
    """The ascending places where the named walker stands in worlds that fit, or None; raises Unknown, BadEnd."""
    check_known(world, picture)
    place_of(world, name)
    check_head_ends(world[0], picture[0])
    parts = [make_picture(spots=[(name, place)]) for place in world[0][0]]
    told = [dict(joint[2])[name] for joint in joined(world, picture, parts)]
    return tuple(told) if told else None
