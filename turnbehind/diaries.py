"""Diaries: what was seen in a world at some moments, and the runs that a diary leaves open."""

from turnbehind.classes import check_class, members
from turnbehind.deeds import moves, refusal, walked
from turnbehind.errors import BadSize, Repeated
from turnbehind.histories import right_deeds
from turnbehind.lengths import following
from turnbehind.names import check_number, first_repeated
from turnbehind.parts import MOST_WALKERS
from turnbehind.parts import place_at, way_at
from turnbehind.pictures import picture_of
from turnbehind.worlds import check_head_ends, place_of

# The kind of an entry tells in which part of a picture its subject and value would stand as a pair.
KINDS = ("way", "place", "name")
MOST_MOMENT = 8
MOST_ENTRIES = 8
MOST_WORLDS = 100


def make_diary(world, entries):
    """The diary with these entries; raises BadNumber, BadSize, Repeated, Unknown, BadEnd, TooLarge."""
    for moment, kind, _, value in entries:
        check_number(moment, 0, MOST_MOMENT)
        if kind == "place":
            check_number(value, 0, MOST_WALKERS)
    if len(entries) > MOST_ENTRIES:
        raise BadSize("entries", len(entries))
    rows = [tuple(entry) for entry in entries]
    again = first_repeated(rows)
    if again is not None:
        raise Repeated(again[2])
    for _, kind, subject, value in rows:
        check_subject(world, kind, subject)
        if kind != "place":
            place_at(world[0], value)
    check_head_ends(world[0], [(subject, value) for moment, kind, subject, value in rows if kind == "way"])
    check_class(world, MOST_WORLDS)
    return (world, tuple(sorted(rows)))


def check_subject(world, kind, subject):
    """Raises Unknown if the world has no such way, place or named walker."""
    if kind == "way":
        way_at(world[0], subject)
    elif kind == "place":
        place_at(world[0], subject)
    else:
        place_of(world, subject)


def last_moment(entries):
    """The moment of the last one of ascending entries, and 0 if there are none."""
    return entries[-1][0] if entries else 0


def shown(picture, entry):
    """True if a world of this whole picture shows the entry."""
    _, kind, subject, value = entry
    return (subject, value) in picture[KINDS.index(kind)]


class Maze:
    """The class of a diary's world: its worlds by rank, the ranks one deed away, and the ranks that show an entry."""

    def __init__(self, diary):
        world, entries = diary
        self.worlds = members(world)
        ranks = {now: rank for rank, now in enumerate(self.worlds)}
        self.first = ranks[world]
        self.steps = [sorted(set([ranks[after] for after in following(now)])) for now in self.worlds]
        pictures = [picture_of(now) for now in self.worlds]
        self.right = {entry: [shown(picture, entry) for picture in pictures] for entry in entries}

    def passing(self, ranks, entries, moment):
        """Those of the ranks whose worlds show all entries of the moment."""
        asked = [self.right[entry] for entry in entries if entry[0] == moment]
        return [rank for rank in ranks if all([right[rank] for right in asked])]

    def after(self, ranks):
        """The ascending ranks of the worlds to which one deed leads from a world of these ranks."""
        return sorted(set([later for rank in ranks for later in self.steps[rank]]))

    def layers(self, entries):
        """By moment, the ascending ranks of the worlds in which a history can stand that shows the entries so far."""
        rows = [self.passing([self.first], entries, 0)]
        for moment in range(1, last_moment(entries) + 1):
            rows.append(self.passing(self.after(rows[-1]), entries, moment))
        return rows

    def kept_layers(self, entries):
        """By moment, the ascending ranks of the worlds in which some run that shows all entries stands."""
        rows = self.layers(entries)
        kept = [rows[-1]]
        # A deed is taken back by the same deed, so the steps lead backwards, too.
        for row in rows[-2::-1]:
            before = self.after(kept[-1])
            kept.append([rank for rank in row if rank in before])
        return kept[::-1]


def fits_diary(diary):
    """True if the diary has a run."""
    return find_run(diary) is not None


def find_run(diary):
    """A run of the diary, or None if there is none."""
    maze = Maze(diary)
    rows = maze.kept_layers(diary[1])
    if not rows[0]:
        return None
    now = maze.first
    deeds = []
    for row in rows[1:]:
        # A run goes on from each world of a kept layer, so some step leads to the next one.
        after = [rank for rank in row if rank in maze.steps[now]][0]
        deeds.append(deed_between(maze.worlds[now], maze.worlds[after]))
        now = after
    return tuple(deeds)


def deed_between(one, other):
    """The first deed that leads from the one world to the other."""
    return [(way, walker) for way, walker in moves(one) if walked(one, way, walker) == other][0]


def is_run(diary, deeds):
    """True if the any value is a run of the diary."""
    world, entries = diary
    if not isinstance(deeds, tuple) or len(deeds) != last_moment(entries) or not right_deeds(world, deeds):
        return False
    now = world
    worlds = [now]
    for way, walker in deeds:
        if refusal(now, way, walker) is not None:
            return False
        now = walked(now, way, walker)
        worlds.append(now)
    pictures = [picture_of(after) for after in worlds]
    return all([shown(pictures[entry[0]], entry) for entry in entries])


def worlds_at(diary, moment):
    """The list, in class order, of the worlds in which runs stand after so many deeds; raises BadNumber."""
    entries = diary[1]
    check_number(moment, 0, last_moment(entries))
    maze = Maze(diary)
    return [maze.worlds[rank] for rank in maze.kept_layers(entries)[moment]]


def must_at(diary, moment):
    """The picture of what all these worlds have in common, or None if there are none; raises BadNumber."""
    pictures = [picture_of(world) for world in worlds_at(diary, moment)]
    if not pictures:
        return None
    found = []
    for at, pairs in enumerate(pictures[0]):
        found.append(tuple([pair for pair in pairs if all([pair in picture[at] for picture in pictures])]))
    return tuple(found)


def may_at(diary, moment, kind, subject):
    """The ascending list of the values that the subject has in these worlds; raises BadNumber, Unknown."""
    worlds = worlds_at(diary, moment)
    check_subject(diary[0], kind, subject)
    at = KINDS.index(kind)
    return sorted(set([dict(picture_of(world)[at])[subject] for world in worlds]))
