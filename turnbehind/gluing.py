"""Gluing two pieces at their border places, what the one sees of the other, and what tells two pieces apart."""

from turnbehind.borders import check_borders, inner_places, lit_sets, shifts
from turnbehind.classes import pointings
from turnbehind.errors import BadSize
from turnbehind.names import check_number, whole
from turnbehind.parts import MOST_PLACES, MOST_WALKERS
from turnbehind.parts import alike_spots, arrows, crowd_sizes
from turnbehind.reaches import check_live, sizes_under
from turnbehind.worlds import make_web, make_world, tuple_of

MOST_GUESTS = 8
MOST_TELLING = 6
MOST_LIVE = 8


def check_guests(piece, guests, most):
    """Raises BadNumber for the first wrong number of guests, BadSize if there is not one for each border place."""
    for number in guests:
        check_number(number, 0, most)
    if len(guests) != len(piece[1]):
        raise BadSize("border", len(guests))


def check_gluing(first, second, guests):
    """Raises BadNumber, BadSize or Unlike if the pieces cannot be glued with these guests."""
    check_guests(first, guests, MOST_GUESTS)
    size = len(first[1]) + len(inner_places(first)) + len(inner_places(second))
    if size > MOST_PLACES:
        raise BadSize("places", size)
    size = sum(crowd_sizes(first[0])) + sum(crowd_sizes(second[0])) + sum(guests)
    if size > MOST_WALKERS:
        raise BadSize("walkers", size)
    check_borders(first, second)


def glue(first, second, guests):
    """The world of two pieces with common border places, where guests stand; raises BadNumber, BadSize, Unlike."""
    check_gluing(first, second, guests)
    alike = [(f"b{number}", many) for number, many in enumerate(guests)]
    places = [place for place, many in alike]
    ways = []
    for piece, letter in ((first, "f"), (second, "s")):
        table = glued_names(piece, letter)
        places.extend([table[place] for place in inner_places(piece)])
        for number, (_, tail, head) in enumerate(arrows(piece[0])):
            ways.append((f"{letter}{number}", table[tail], table[head]))
        alike.extend([(table[place], many) for place, many in alike_spots(piece[0])])
    return make_world(make_web(places, ways), heads=[(way, head) for way, tail, head in ways], alike=alike)


def glued_names(piece, letter):
    """A dict from each place of the piece to its name in the glued world."""
    names = {place: f"b{number}" for number, place in enumerate(piece[1])}
    for number, place in enumerate(inner_places(piece)):
        names[place] = f"{letter}{number}"
    return names


def views(first, second, guests):
    """The ascending list of the views of the second piece; raises BadNumber, BadSize, Unlike, TooLarge."""
    world = glue(first, second, guests)
    check_live(world, MOST_LIVE)
    table = glued_names(second, "s")
    own = {table[place]: place for place in table}
    # In the glued world the border places stand before all others, and the ways of the first piece before the second's.
    borders = len(guests)
    others = len(first[0][0][1])
    found = set()
    for heads in pointings(world):
        found.add((tuple([own[head] for head in heads[others:]]), tuple(sizes_under(world, heads)[:borders])))
    return sorted(found)


def guest_rows(piece, guests):
    """The ascending list of the numbers of walkers that can come to the border; raises BadNumber, BadSize."""
    check_guests(piece, guests, MOST_TELLING)
    lit = [number for number, many in enumerate(guests) if many > 0]
    rows = [tuple([many + shift for many, shift in zip(guests, row)]) for row in shifts(piece, lit)]
    return [row for row in rows if min(row) >= 0]


def find_telling(one, other):
    """A telling of two pieces, or None if they are alike; raises Unlike."""
    check_borders(one, other)
    # No shift takes more than six away. So, with six guests at each place of a lit set that is its own closure in both
    # pieces, no shift is left out; and a place that only one of the closures has gets walkers in that piece alone.
    for lit in lit_sets(len(one[1])):
        guests = tuple([MOST_TELLING if number in lit else 0 for number in range(len(one[1]))])
        ours, theirs = guest_rows(one, guests), guest_rows(other, guests)
        for row in ours + theirs:
            if row not in theirs:
                return (guests, row, 0)
            if row not in ours:
                return (guests, row, 1)
    return None


def is_telling(one, other, telling):
    """True if the any value is a telling of the pieces; raises Unlike."""
    check_borders(one, other)
    if not tuple_of(telling, 3):
        return False
    guests, row, side = telling
    if not right_numbers(guests, len(one[1])) or not right_numbers(row, len(one[1])) or not whole(side):
        return False
    if side not in (0, 1) or not all([0 <= number <= MOST_TELLING for number in guests]):
        return False
    within = [row in guest_rows(piece, guests) for piece in (one, other)]
    return within == [side == 0, side == 1]


def right_numbers(value, many):
    """True if the any value is a tuple of so many integers."""
    return tuple_of(value, many) and all([whole(number) for number in value])
