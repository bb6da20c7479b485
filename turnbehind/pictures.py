"""Pictures, which tell a part of a world, and bars, which show that no world of a class shows a picture."""

from turnbehind.names import check_number, check_once, first_repeated
from turnbehind.papers import shut
from turnbehind.parts import MOST_WALKERS
from turnbehind.parts import arrows, ascending_part, check_places, crowd_sizes, name_spots, place_at, way_at
from turnbehind.reaches import dues, is_shore
from turnbehind.worlds import check_head_ends, head_of, place_of, tail_of


def make_picture(*, heads=(), counts=(), spots=()):
    """The picture that tells these pairs; raises BadNumber, Repeated."""
    for _, number in counts:
        check_number(number, 0, MOST_WALKERS)
    for pairs in (heads, counts, spots):
        check_once(firsts(pairs))
    return tuple([tuple(sorted([tuple(pair) for pair in pairs])) for pairs in (heads, counts, spots)])


def firsts(pairs):
    """What stands first in the pairs."""
    return [pair[0] for pair in pairs]


def check_picture(world, picture):
    """Raises Unknown or BadEnd if the picture is not of the world."""
    check_known(world, picture)
    check_head_ends(world[0], picture[0])


def check_known(world, picture):
    """Raises Unknown for the first way, place or name of the picture that is not in the world."""
    heads, counts, spots = picture
    for way, place in heads:
        way_at(world[0], way)
        place_at(world[0], place)
    check_places(world, firsts(counts))
    for name, place in spots:
        place_of(world, name)
        place_at(world[0], place)


def shows(world, picture):
    """True if all that the picture tells is so in the world; raises Unknown, BadEnd."""
    check_picture(world, picture)
    return all([pair in real for pairs, real in zip(picture, picture_of(world)) for pair in pairs])


def picture_of(world):
    """The picture that tells all heads, the number of walkers at each place, and the places of all named walkers."""
    heads = [(way, head) for way, tail, head in arrows(world)]
    return (tuple(heads), tuple(list(zip(world[0][0], crowd_sizes(world)))), tuple(name_spots(world)))


def join_pictures(one, other):
    """The picture that tells all that both tell, or None if they contradict each other."""
    joint = [sorted(set(ours + theirs)) for ours, theirs in zip(one, other)]
    if any([first_repeated(firsts(pairs)) is not None for pairs in joint]):
        return None
    return tuple([tuple(pairs) for pairs in joint])


def is_bar(world, picture, bar):
    """True if the any value is a bar for the picture in the class of the world; raises Unknown, BadEnd."""
    check_picture(world, picture)
    if not isinstance(bar, tuple) or not 2 <= len(bar) <= 4:
        return False
    kind = (bar[0], len(bar))
    if kind == ("still", 3):
        return still_bar(world, picture, bar[1], bar[2])
    if kind == ("name", 4):
        return name_bar(world, picture, bar)
    if kind == ("crowd", 2):
        return crowd_bar(picture, bar[1])
    if kind == ("asks", 3):
        return asks_bar(world, picture, bar[1], bar[2])
    if kind == ("holds", 3):
        return holds_bar(world, picture, bar[1], bar[2])
    return False


def still_bar(world, picture, way, shore):
    """True if the picture turns this way, which no deed turns."""
    if way not in firsts(picture[0]) or not is_shore(world, shore):
        return False
    tail, head = tail_of(world, way), head_of(world, way)
    return not (tail in shore and head in shore) and (way, head) not in picture[0]


def name_bar(world, picture, bar):
    """True if the picture tells a named walker outside of a side that it does not leave."""
    _, name, shore, side = bar
    if name not in firsts(picture[2]) or not shut(world, shore, side):
        return False
    goals = [place for walker, place in picture[2] if walker == name]
    return place_of(world, name) in side and goals[0] not in side


def crowd_bar(picture, place):
    """True if the picture tells more named walkers at the place than it tells walkers there."""
    goals = [goal for walker, goal in picture[2]]
    return any([spot == place and number < goals.count(spot) for spot, number in picture[1]])


def asks_bar(world, picture, places, shore):
    """True if these places together need to be the tails of more ways than they can be."""
    if not ascending_part(places, world[0][0]) or not is_shore(world, shore):
        return False
    rows = told_rows(world, picture, shore)
    most = [way for way, tail, head, free in rows if tail in places or (free and head in places)]
    needs = needs_of(world, picture)
    return sum([needs[place] for place in places]) > len(most)


def holds_bar(world, picture, places, shore):
    """True if these places, of each of which a number is told, together are the tails of more ways than they hold."""
    if not ascending_part(places, firsts(picture[1])) or not is_shore(world, shore):
        return False
    rows = told_rows(world, picture, shore)
    least = [way for way, tail, head, free in rows if tail in places and (head in places or not free)]
    needs = needs_of(world, picture)
    return sum([needs[place] for place in places]) < len(least)


def told_rows(world, picture, shore):
    """The rows (way, tail, head, free) of all ways; within the shore a way points as the picture tells."""
    heads = {way: place for way, place in picture[0]}
    rows = []
    for way, tail, head in arrows(world):
        within = tail in shore and head in shore
        turned = within and heads.get(way) == tail
        rows.append((way, head if turned else tail, tail if turned else head, within and way not in heads))
    return rows


def needs_of(world, picture):
    """A dict from each place to its due plus its told number of walkers, or else the number of names told for it."""
    numbers = {place: number for place, number in picture[1]}
    goals = [place for name, place in picture[2]]
    return {
        place: number + numbers.get(place, goals.count(place)) for place, number in zip(world[0][0], dues(world))
    }
