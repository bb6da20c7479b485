"""Histories that lead from a world to another one that comes of it."""

from turnbehind.deeds import moves, walked
from turnbehind.exchanges import some_walker
from turnbehind.papers import comes_of
from turnbehind.standings import find_standing, standing_of
from turnbehind.tables import fewest_deeds
from turnbehind.worlds import tail_of, unnamed


def find_history(start, end):
    """A history from start to end, or None if end does not come of start; raises Unlike."""
    if not comes_of(start, end):
        return None
    now = start
    deeds = []
    for way in shortest_ways(unnamed(start), unnamed(end)):
        walker = some_walker(now, tail_of(now, way))
        deeds.append((way, walker))
        now = walked(now, way, walker)
    return tuple(deeds) + find_standing(now, standing_of(end))


def shortest_ways(start, end):
    """The ways that are walked in a history of the fewest deeds, for unnamed worlds of which one comes of the other."""
    now = start
    ways = []
    for left in range(fewest_deeds(start, end), 0, -1):
        way = nearing_way(now, end, left)
        ways.append(way)
        now = walked(now, way, None)
    return ways


def nearing_way(now, end, left):
    """The first way that can be walked so that fewer deeds are left than before."""
    ways = [way for way, walker in moves(now)]
    at = 0
    while fewest_deeds(walked(now, ways[at], None), end) >= left:
        at += 1
    return ways[at]
