"""The text of a world, and its reader."""

from turnbehind.errors import BadText
from turnbehind.names import is_name
from turnbehind.parts import FEWEST_PLACES, MOST_PLACES, MOST_WALKERS, MOST_WAYS
from turnbehind.parts import alike_spots, arrows, name_spots
from turnbehind.worlds import make_web, make_world

KINDS = ("place", "way", "walkers", "walker")
WORDS = (2, 4, 3, 3)
COUNTS = ("1", "2", "3", "4", "5", "6", "7", "8")


def write_world(world):
    """The text of the world."""
    lines = [f"place {place}" for place in world[0][0]]
    lines.extend([f"way {way} {tail} {head}" for way, tail, head in arrows(world)])
    lines.extend([f"walkers {place} {number}" for place, number in alike_spots(world)])
    lines.extend([f"walker {name} {place}" for name, place in name_spots(world)])
    return "\n".join(lines)


def read_world(text):
    """The world with this text; raises BadText with the number of the first wrong line."""
    rows = [line.split(" ") for line in text.split("\n")]
    for at in range(len(rows)):
        if wrong_line(rows[:at], rows[at]):
            raise BadText(at + 1)
    if len(rows) < FEWEST_PLACES:
        raise BadText(len(rows) + 1)
    ways = rows_of(rows, "way")
    web = make_web([row[1] for row in rows_of(rows, "place")], [(row[1], row[2], row[3]) for row in ways])
    return make_world(
        web,
        heads=[(row[1], row[3]) for row in ways],
        alike=[(row[1], int(row[2])) for row in rows_of(rows, "walkers")],
        named=[(row[1], row[2]) for row in rows_of(rows, "walker")],
    )


def rows_of(rows, kind):
    """The rows of words that are of this kind."""
    return [row for row in rows if row[0] == kind]


def wrong_line(before, words):
    """True if the line of these words is wrong, given the right lines before it."""
    if words[0] not in KINDS or len(words) != WORDS[KINDS.index(words[0])]:
        return True
    if wrong_order(before, words):
        return True
    places = [row[1] for row in rows_of(before, "place")]
    return wrong_words(places, words) or too_many(before + [words])


def wrong_order(before, words):
    """True if a line of this kind or with this second word cannot stand behind the lines before it."""
    if words[0] != "place" and len(rows_of(before, "place")) < FEWEST_PLACES:
        return True
    if not before:
        return False
    last = before[-1]
    if words[0] == last[0]:
        return words[1] <= last[1]
    return KINDS.index(words[0]) < KINDS.index(last[0])


def wrong_words(places, words):
    """True if the words behind the first do not fit the kind of the line and the places told before it."""
    if words[0] == "walkers":
        return words[1] not in places or words[2] not in COUNTS
    if not is_name(words[1]):
        return True
    if words[0] == "way" and words[2] == words[3]:
        return True
    return not all([place in places for place in words[2:]])


def too_many(rows):
    """True if the rows tell more places, ways or walkers than a world may have."""
    walkers = sum([int(row[2]) for row in rows_of(rows, "walkers")]) + len(rows_of(rows, "walker"))
    if len(rows_of(rows, "place")) > MOST_PLACES or len(rows_of(rows, "way")) > MOST_WAYS:
        return True
    return walkers > MOST_WALKERS
