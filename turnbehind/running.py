"""Carrying out errands with an amount of fuel, and worlds in which two errands part."""

from turnbehind.classes import check_class, members
from turnbehind.deeds import walked
from turnbehind.errands import errands_in
from turnbehind.errors import NoRun
from turnbehind.names import check_number
from turnbehind.parts import place_at, way_at
from turnbehind.reaches import road
from turnbehind.worlds import bag_at, check_head_ends, head_of, place_of, tail_of

MOST_FUEL = 60
MOST_WORLDS = 40


class Walk:
    """An errand that is being carried out: the world as it is now, the deeds so far, and the fuel that is left."""

    def __init__(self, world, fuel):
        self.now = world
        self.deeds = []
        self.left = fuel

    def spend(self, units, at):
        """Takes so much fuel for a step of the errand to which at leads; raises NoRun."""
        if units > self.left:
            raise NoRun(at, "no end")
        self.left = self.left - units

    def step(self, way, walker):
        """Does a deed that is possible."""
        self.now = walked(self.now, way, walker)
        self.deeds.append((way, walker))


def run(errand, world, walker, *, fuel=24):
    """The world after the errand, and the history of its deeds; raises BadNumber, Unknown, BadEnd, NoRun."""
    check_number(fuel, 0, MOST_FUEL)
    check_errands([errand], world, walker)
    walk = Walk(world, fuel)
    carry_out(walk, errand, walker, ())
    return (walk.now, tuple(walk.deeds))


def check_errands(errands, world, walker):
    """Raises Unknown for the first name of the errands, or else the walker, if it is not in the world; or BadEnd."""
    steps = [part for errand in errands for part in errands_in(errand)]
    for part in steps:
        check_names_of(world, part)
    place_of(world, walker)
    check_head_ends(world[0], [(part[1], part[2]) for part in steps if part[0] == "while"])


def check_names_of(world, part):
    """Raises Unknown for the first name that the first words of an errand tell and that is not in the world."""
    kind = part[0]
    if kind in ("by", "while"):
        way_at(world[0], part[1])
    if kind == "while":
        place_at(world[0], part[2])
    if kind == "to":
        place_at(world[0], part[1])
    if kind == "each":
        for way in part[1]:
            way_at(world[0], way)
    if kind == "as":
        place_of(world, part[1])


def carry_out(walk, errand, walker, at):
    """Carries the errand out, to which at leads from the whole errand; raises NoRun."""
    kind = errand[0]
    if kind == "by":
        go_by(walk, errand[1], walker, at)
    elif kind == "to":
        go_to(walk, errand[1], walker, at)
    elif kind == "each":
        try_each(walk, errand[1], walker, at)
    elif kind == "seq":
        for index, part in enumerate(errand[1]):
            carry_out(walk, part, walker, (*at, index))
    elif kind == "as":
        carry_out(walk, errand[2], errand[1], (*at, 0))
    else:
        while goes_on(walk.now, errand, walker):
            walk.spend(1, at)
            carry_out(walk, errand[-1], walker, (*at, 0))


def stands_before(world, way, walker):
    """True if the named walker stands at the tail of the way."""
    return place_of(world, walker) == tail_of(world, way)


def go_by(walk, way, walker, at):
    """Walks the way; raises NoRun."""
    if not stands_before(walk.now, way, walker):
        raise NoRun(at, "no way")
    walk.spend(1, at)
    walk.step(way, walker)


def go_to(walk, place, walker, at):
    """Walks the least road to the place; raises NoRun."""
    ways = road(walk.now, place_of(walk.now, walker), place)
    if ways is None:
        raise NoRun(at, "no road")
    walk.spend(len(ways), at)
    for way in ways:
        walk.step(way, walker)


def try_each(walk, ways, walker, at):
    """Walks each of the ways whose tail is where the walker stands at that moment; raises NoRun."""
    for way in ways:
        if stands_before(walk.now, way, walker):
            walk.spend(1, at)
            walk.step(way, walker)


def goes_on(world, errand, walker):
    """True if a while or until carries its errand out once more."""
    if errand[0] == "while":
        return head_of(world, errand[1]) == errand[2]
    return bag_at(world, place_of(world, walker)).many == 1


def outcome(errand, world, walker, *, fuel=24):
    """What the errand ends with: the world or the cause of its refusal; raises BadNumber, Unknown, BadEnd."""
    try:
        return ("ends", run(errand, world, walker, fuel=fuel)[0])
    except NoRun as error:
        return ("refused", error.cause)


def find_parting(one, other, world, walker, *, fuel=24):
    """The first world of the class in which two errands part, or None; raises BadNumber, Unknown, BadEnd, TooLarge."""
    check_number(fuel, 0, MOST_FUEL)
    check_errands([one, other], world, walker)
    check_class(world, MOST_WORLDS)
    for now in members(world):
        if outcome(one, now, walker, fuel=fuel) != outcome(other, now, walker, fuel=fuel):
            return now
    return None
