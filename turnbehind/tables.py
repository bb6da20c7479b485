"""Clusters of differing ways, and tables that tell how few deeds lead from one unnamed world to another."""

from turnbehind.errors import Named
from turnbehind.names import whole
from turnbehind.papers import comes_of
from turnbehind.parts import arrows, check_like, occupied, walker_names
from turnbehind.reaches import linked
from turnbehind.worlds import differing, tuple_of

GREATEST = 99


def check_bare(world):
    """Raises Named if the world has named walkers."""
    names = walker_names(world)
    if names:
        raise Named(tuple(names))


def check_two(start, end):
    """Raises Unlike or Named if the functions about two unnamed worlds do not take these two."""
    check_like(start, end)
    check_bare(start)


def clusters(start, end):
    """The tuple of all clusters, in their order; raises Unlike, Named."""
    check_two(start, end)
    turned = differing(start, end)
    rows = [row for row in arrows(start) if row[0] in turned]
    steps = [(tail, head) for way, tail, head in rows]
    parts = linked(steps, start[0][0])
    groups = [tuple([way for way, tail, head in rows if tail in part]) for part in parts]
    return tuple(sorted([group for group in groups if group]))


def idle_clusters(start, end):
    """The tuple of the clusters that no walker touches in start, in their order; raises Unlike, Named."""
    spots = occupied(start)
    groups = clusters(start, end)
    return tuple([group for group in groups if not any([place in spots for place in ends_of(start, group)])])


def ends_of(world, group):
    """The ends of the ways of a cluster, in place order."""
    ends = [place for way, tail, head in arrows(world) for place in (tail, head) if way in group]
    return sorted(set(ends))


def find_table(start, end):
    """The table of the greatest numbers, or None if end does not come of start; raises Unlike, Named."""
    check_two(start, end)
    return greatest_table(start, end) if comes_of(start, end) else None


def greatest_table(start, end):
    """The table of the greatest numbers for worlds of which one comes of the other."""
    groups = idle_clusters(start, end)
    steps = priced(start, end)
    rows = [(0,) * (len(start[0][0]) + 1)]
    for number in range(1, 1 << len(groups)):
        rows.append(greatest_row(start, steps, row_limits(start, groups, rows, number)))
    return (groups, tuple(rows))


def priced(start, end):
    """The triples (position of the tail, of the head, price) of all ways; the price of a differing way is 0, else 1."""
    places = start[0][0]
    turned = differing(start, end)
    return [(places.index(tail), places.index(head), 0 if way in turned else 1) for way, tail, head in arrows(start)]


def row_limits(world, groups, rows, number):
    """The greatest numbers of the row of a set that the rows of smaller sets allow (conditions 3 and 4)."""
    places = world[0][0]
    limits = [GREATEST] * (len(places) + 1)
    for part in range(1, number):
        if (part & number) == part:
            sums = [one + other for one, other in zip(rows[part], rows[number - part])]
            limits = [min(pair) for pair in zip(limits, sums)]
    for at, group in enumerate(groups):
        if (number >> at) & 1 == 1:
            for place in ends_of(world, group):
                spot = places.index(place)
                limits[spot] = min(limits[spot], rows[number - (1 << at)][spot])
    return limits


def greatest_row(world, steps, limits):
    """The row of the greatest numbers within these limits (conditions 2 and 5)."""
    row = list(limits)
    changed = True
    while changed:
        changed = False
        for tail, head, price in steps:
            if row[tail] > row[head] + price:
                row[tail] = row[head] + price
                changed = True
    row[-1] = min([row[-1]] + root_limits(world, row))
    return tuple(row)


def root_limits(world, row):
    """The numbers in the row of the places where a walker stands."""
    spots = occupied(world)
    return [number for place, number in zip(world[0][0], row) if place in spots]


def fewest(start, end):
    """The fewest deeds that lead from start to end, or None if end does not come of start; raises Unlike, Named."""
    check_two(start, end)
    return fewest_deeds(start, end) if comes_of(start, end) else None


def fewest_deeds(start, end):
    """The fewest deeds that lead from start to end, of which one comes of the other."""
    return worth(start, end, greatest_table(start, end))


def worth(start, end, table):
    """The worth of a table."""
    return len(differing(start, end)) + 2 * table[1][-1][-1]


def is_table(start, end, table, number):
    """True if end comes of start, and the any value is a table for them of this worth or more; raises Unlike, Named."""
    check_two(start, end)
    if not comes_of(start, end) or not tuple_of(table, 2):
        return False
    groups, rows = table
    if groups != idle_clusters(start, end) or not tuple_of(rows, 1 << len(groups)):
        return False
    if not all([right_row(start, row) for row in rows]) or any(rows[0]):
        return False
    steps = priced(start, end)
    return worth(start, end, table) >= number and all([
        within_limits(start, steps, rows[at], row_limits(start, groups, rows, at)) for at in range(1, len(rows))
    ])


def right_row(world, row):
    """True if the any value is a row of numbers, one for each place and the root number."""
    if not tuple_of(row, len(world[0][0]) + 1):
        return False
    return all([whole(number) and 0 <= number <= GREATEST for number in row])


def within_limits(world, steps, row, limits):
    """True if no number of the row is above its limit (conditions 2 to 5)."""
    if any([number > limit for number, limit in zip(row, limits)]):
        return False
    if any([row[tail] > row[head] + price for tail, head, price in steps]):
        return False
    return all([row[-1] <= limit for limit in root_limits(world, row)])
