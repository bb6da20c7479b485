"""Histories: deeds one after another."""

from turnbehind.deeds import check_deeds, refusal, walked
from turnbehind.errors import BadSize, NoDeed
from turnbehind.names import check_number
from turnbehind.parts import check_like, walker_names, way_names

MOST_SETTLED = 12


def replay(world, deeds):
    """The world after the history; raises Unknown, NoDeed."""
    return trace(world, deeds)[-1]


def trace(world, deeds):
    """The list of all worlds of the history, the first and the last included; raises Unknown, NoDeed."""
    check_deeds(world, deeds)
    now = world
    worlds = [now]
    for index, (way, walker) in enumerate(deeds):
        cause = refusal(now, way, walker)
        if cause is not None:
            raise NoDeed(index, way, cause)
        now = walked(now, way, walker)
        worlds.append(now)
    return worlds


def as_tuples(deeds):
    """The tuple of the deeds, each a tuple."""
    return tuple([tuple(deed) for deed in deeds])


def take_back(deeds):
    """The tuple of the deeds in reverse order."""
    return as_tuples(deeds[::-1])


def cut(deeds, at):
    """The pair of the first deeds, so many, and the others; raises BadNumber."""
    check_number(at, 0, len(deeds))
    return (as_tuples(deeds[:at]), as_tuples(deeds[at:]))


def follow(world, first, second):
    """The tuple of the deeds of the first and then those of the second; raises Unknown, NoDeed."""
    both = as_tuples(first) + as_tuples(second)
    replay(world, both)
    return both


def shorten(world, deeds):
    """The history without the parts that lead back to an earlier world; raises Unknown, NoDeed."""
    worlds = trace(world, deeds)
    kept = []
    line = [world]
    # The kept worlds all differ, so each stands at one number of the line.
    numbers = {world: 0}
    for deed, after in zip(deeds, worlds[1:]):
        if after in numbers:
            size = numbers[after]
            for late in line[size + 1:]:
                del numbers[late]
            line = line[:size + 1]
            kept = kept[:size]
        else:
            kept.append(tuple(deed))
            line.append(after)
            numbers[after] = len(kept)
    return tuple(kept)


def settle(world, deeds):
    """The settled history; raises BadSize, Unknown, NoDeed."""
    if len(deeds) > MOST_SETTLED:
        raise BadSize("deeds", len(deeds))
    line = list(as_tuples(deeds))
    at = first_swap(trace(world, line), line)
    while at is not None:
        line = line[:at] + [line[at + 1], line[at]] + line[at + 2:]
        at = first_swap(trace(world, line), line)
    return tuple(line)


def first_swap(worlds, line):
    """The least index of a deed that can be swapped with the next one, which stands before it; None if none can."""
    for at in range(len(line) - 1):
        if deed_key(line[at + 1]) < deed_key(line[at]) and can_swap(worlds[at], line[at], line[at + 1]):
            return at
    return None


def deed_key(deed):
    """What deed order compares: None becomes the empty text, which stands before every name."""
    way, walker = deed
    return (way, "" if walker is None else walker)


def can_swap(world, first, second):
    """True if the two deeds are possible in the other order."""
    if refusal(world, second[0], second[1]) is not None:
        return False
    return refusal(walked(world, second[0], second[1]), first[0], first[1]) is None


def turned(deeds):
    """The ascending tuple of the ways that are walked an odd number of times."""
    odd = {}
    for way, _ in deeds:
        odd[way] = not odd.get(way, False)
    return tuple(sorted([way for way in odd if odd[way]]))


def is_history(start, deeds, end):
    """True if the any value is a history from start to end; raises Unlike."""
    check_like(start, end)
    if not isinstance(deeds, tuple) or not right_deeds(start, deeds):
        return False
    now = start
    for way, walker in deeds:
        if refusal(now, way, walker) is not None:
            return False
        now = walked(now, way, walker)
    return now == end


def right_deeds(world, deeds):
    """True if each item of the tuple is a deed of a way and a walker of the world, possible or not."""
    ways = way_names(world[0])
    names = walker_names(world)
    for deed in deeds:
        if not isinstance(deed, tuple) or len(deed) != 2:
            return False
        way, walker = deed
        if way not in ways or not (walker is None or walker in names):
            return False
    return True
