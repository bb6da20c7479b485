"""Shapes: what is left of an unnamed world when its places and ways lose their names."""

from turnbehind.errors import TooLarge
from turnbehind.parts import arrows, crowd_sizes
from turnbehind.tables import check_bare

MOST_SHAPED = 5


def shape(world):
    """The shape; raises Named, TooLarge."""
    check_small([world])
    return least_form(world)[:2]


def find_renaming(one, other):
    """The renamings of places and of ways that make the one world the other, or None; raises Named, TooLarge."""
    check_small([one, other])
    ours = least_form(one)
    theirs = least_form(other)
    if ours[:2] != theirs[:2]:
        return None
    return (renaming_pairs(ours[2], theirs[2]), renaming_pairs(ours[3], theirs[3]))


def renaming_pairs(old, new):
    """The ascending tuple of the pairs of an old name and the new name that stands at the same position."""
    return tuple(sorted(list(zip(old, new))))


def check_small(worlds):
    """Raises Named for the first world that has names, otherwise TooLarge for the first with too many places."""
    for world in worlds:
        check_bare(world)
    for world in worlds:
        size = len(world[0][0])
        if size > MOST_SHAPED:
            raise TooLarge("places", size)


def least_form(world):
    """The least of the forms that the orders of the places give."""
    return min([form(world, order) for order in orders(world[0][0])])


def form(world, order):
    """The counts and the ways as numbers, for this order of the places, and then the names behind these numbers."""
    sizes = crowd_sizes(world)
    counts = tuple([sizes[world[0][0].index(place)] for place in order])
    rows = sorted([((order.index(tail), order.index(head)), way) for way, tail, head in arrows(world)])
    return (counts, tuple([pair for pair, way in rows]), order, tuple([way for pair, way in rows]))


def orders(places):
    """The list of all orders of the places, each a tuple."""
    found = [()]
    for _ in places:
        found = [(*order, place) for order in found for place in places if place not in order]
    return found
