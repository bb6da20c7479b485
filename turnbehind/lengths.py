"""Histories of the fewest deeds, and of a given number of deeds, between unnamed worlds."""

from turnbehind.comings import shortest_ways
from turnbehind.deeds import moves, walked
from turnbehind.histories import is_history
from turnbehind.names import check_number
from turnbehind.papers import comes_of
from turnbehind.reaches import check_live
from turnbehind.tables import check_bare, check_two, fewest

MOST_ASKED = 1000
MOST_FOUND = 100
MOST_COUNTED = 12
MOST_LIVE = 6


def find_shortest(start, end):
    """A history of the fewest deeds, or None if end does not come of start; raises Unlike, Named."""
    check_two(start, end)
    if not comes_of(start, end):
        return None
    return tuple([(way, None) for way in shortest_ways(start, end)])


def is_shortest(start, deeds, end):
    """True if the any value is a history from start to end of the fewest deeds; raises Unlike, Named."""
    least = fewest(start, end)
    return is_history(start, deeds, end) and len(deeds) == least


def can_in(start, end, length):
    """True if a history of so many deeds leads from start to end; raises BadNumber, Unlike, Named."""
    check_number(length, 0, MOST_ASKED)
    least = fewest(start, end)
    if least is None or length < least:
        return False
    return length == least or ((length - least) % 2 == 0 and len(moves(start)) > 0)


def find_in(start, end, length):
    """A history of so many deeds from start to end, or None if there is none; raises BadNumber, Unlike, Named."""
    check_number(length, 0, MOST_FOUND)
    if not can_in(start, end, length):
        return None
    deeds = find_shortest(start, end)
    # One deed there and back, as often as it takes: none is needed, or possible perhaps, if the fewest are asked for.
    return tuple(moves(start)[:1] * (length - len(deeds))) + deeds


def count_in(start, end, length):
    """The number of histories of so many deeds from start to end; raises BadNumber, Unlike, Named, TooLarge."""
    check_number(length, 0, MOST_COUNTED)
    check_two(start, end)
    check_live(start, MOST_LIVE)
    counts = {start: 1}
    for _ in range(length):
        later = {}
        for now, count in counts.items():
            for after in following(now):
                later[after] = later.get(after, 0) + count
        counts = later
    return counts.get(end, 0)


def following(world):
    """The worlds after each deed that is possible."""
    return [walked(world, way, walker) for way, walker in moves(world)]


def spread(start):
    """The tuple of the numbers of worlds to which the fewest deeds are 0, 1, and so on; raises Named, TooLarge."""
    check_bare(start)
    check_live(start, MOST_LIVE)
    found = {start: True}
    line = [start]
    sizes = []
    while line:
        sizes.append(len(line))
        later = []
        for after in [world for now in line for world in following(now)]:
            if after not in found:
                found[after] = True
                later.append(after)
        line = later
    return tuple(sizes)
