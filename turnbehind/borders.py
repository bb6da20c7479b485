"""Pieces: small unnamed worlds with border places, and all that can be told of them from outside."""

from turnbehind.errors import BadSize, Occupied, Unlike
from turnbehind.names import check_number, check_once
from turnbehind.parts import arrows, check_places, lifted, occupied, way_names
from turnbehind.reaches import dues, pointed, steps_from
from turnbehind.tables import check_bare

MOST_BORDER = 3
MOST_PIECE_WAYS = 6


def make_piece(world, border):
    """The piece with these border places; raises BadSize, Repeated, Unknown, Occupied, Named."""
    if not 1 <= len(border) <= MOST_BORDER:
        raise BadSize("border", len(border))
    size = len(world[0][1])
    if size > MOST_PIECE_WAYS:
        raise BadSize("ways", size)
    check_once(border)
    check_places(world, border)
    spots = occupied(world)
    for place in border:
        if place in spots:
            raise Occupied(place)
    check_bare(world)
    return (world, tuple(border))


def inner_places(piece):
    """The places of the piece that are no border places, in place order."""
    world, border = piece
    return [place for place in world[0][0] if place not in border]


def check_borders(one, other):
    """Raises Unlike if two pieces have different numbers of border places."""
    if len(one[1]) != len(other[1]):
        raise Unlike("border")


def load(piece):
    """The tuple of the numbers of ways whose tail each border place is, by border number."""
    world, border = piece
    tails = [tail for tail, head in pointed(world)]
    return tuple([tails.count(place) for place in border])


def check_lit(piece, lit):
    """Raises BadNumber for the first item that is no border number, otherwise Repeated."""
    for number in lit:
        check_number(number, 0, len(piece[1]) - 1)
    check_once(lit)


def lit_places(piece, lit):
    """The places that can be come to from a lit border place or from an inner place where a walker stands."""
    world, border = piece
    # No walker stands at a border place of a piece.
    return list(steps_from(pointed(world), [border[number] for number in lit] + occupied(world)))


def closure(piece, lit):
    """The ascending tuple of the numbers of the border places that can be come to; raises BadNumber, Repeated."""
    check_lit(piece, lit)
    within = lit_places(piece, lit)
    return tuple([number for number, place in enumerate(piece[1]) if place in within])


def shifts(piece, lit):
    """The ascending tuple of all shifts under the lit set; raises BadNumber, Repeated."""
    check_lit(piece, lit)
    world, border = piece
    before = load(piece)
    inner = inner_places(piece)
    owed = [(place, number) for place, number in zip(world[0][0], dues(world)) if place in inner]
    found = set()
    for tails in tail_choices(world, lit_places(piece, lit)):
        if all([tails.count(place) >= number for place, number in owed]):
            found.add(tuple([tails.count(place) - number for place, number in zip(border, before)]))
    return tuple(sorted(found))


def tail_choices(world, within):
    """The lists of the tails of all ways, if a way with both ends within these places may point to each of them."""
    found = [[]]
    for _, tail, head in arrows(world):
        ends = (tail, head) if tail in within and head in within else (tail,)
        found = [[*tails, end] for tails in found for end in ends]
    return found


def lit_sets(many):
    """The list of all lit sets of so many border places, in the order of the numbers of which they are the digits."""
    found = []
    for digits in range(1 << many):
        found.append(tuple([number for number in range(many) if (digits >> number) & 1 == 1]))
    return found


def behaviour(piece):
    """The tuple of the shifts under each lit set."""
    return tuple([shifts(piece, lit) for lit in lit_sets(len(piece[1]))])


def are_alike(one, other):
    """True if the behaviours of two pieces are equal; raises Unlike."""
    check_borders(one, other)
    return behaviour(one) == behaviour(other)


def lift_way(piece, way):
    """The piece without the way; raises Unknown."""
    world, border = piece
    return (lifted(world, way), border)


def trim(piece):
    """The piece without the ways whose lifting leaves an alike piece, lifted one after another."""
    now = piece
    rest = first_lifted(now)
    while rest is not None:
        now = rest
        rest = first_lifted(now)
    return now


def first_lifted(piece):
    """The piece without the first way whose lifting leaves an alike piece, or None if there is none."""
    for way in way_names(piece[0][0]):
        rest = lift_way(piece, way)
        if are_alike(piece, rest):
            return rest
    return None
