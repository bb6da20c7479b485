"""Points 59 and 60: diaries, their runs, and what the runs leave open."""

import random

from tests.support import ODD_VALUES, Case, class_of, sized, some_worlds, two_ways
from turnbehind.classes import count_class
from turnbehind.deeds import go, moves
from turnbehind.diaries import fits_diary, find_run, is_run, make_diary, may_at, must_at, worlds_at
from turnbehind.errors import BadEnd, BadNumber, BadSize, Repeated, TooLarge, Unknown
from turnbehind.histories import trace
from turnbehind.pictures import picture_of
from turnbehind.reaches import live_ways
from turnbehind.standings import standing_of
from turnbehind.worlds import bag_at, head_of, make_web, make_world, names_of, place_of

BAD_NUMBERS = (None, True, False, "", "1", -1, 9, 10 ** 19, -10 ** 19)
PAIR = two_ways(heads=[("v", "a")], alike=[("a", 1)])
# u: a to b, v: b to a, w: b to c; al and an alike walker at a.
THREE = make_world(
    make_web(["a", "b", "c"], [("u", "a", "b"), ("v", "a", "b"), ("w", "b", "c")]),
    heads=[("v", "a")], alike=[("a", 1)], named=[("al", "a")],
)
STILL = two_ways(heads=[("v", "a")])


def holds(world, entry):
    """True if the world shows what the entry tells, whatever its moment."""
    _, kind, subject, value = entry
    if kind == "way":
        return head_of(world, subject) == value
    if kind == "place":
        return bag_at(world, subject).many == value
    return place_of(world, subject) == value


def last_of(entries):
    """The last moment, as point 60 tells."""
    return max([entry[0] for entry in entries], default=0)


def histories_of(world, count):
    """All histories of so many deeds."""
    if count == 0:
        return [()]
    return [(deed, *deeds) for deed in moves(world) for deeds in histories_of(go(world, *deed), count - 1)]


def runs_of(world, entries):
    """All runs, by trying every history; each as the list of its deeds and the list of its worlds."""
    found = [([], [world])]
    for moment in range(last_of(entries) + 1):
        if moment > 0:
            found = [(deeds + [deed], worlds + [go(worlds[-1], *deed)])
                     for deeds, worlds in found for deed in moves(worlds[-1])]
        seen = [entry for entry in entries if entry[0] == moment]
        found = [run for run in found if all(holds(run[1][-1], entry) for entry in seen)]
    return found


def some_entries(world, count, *, seed=1, most=4, rightly=0.8):
    """So many different entries at most, of which many are so in one history, the same ones in each run."""
    chance = random.Random(seed)
    line = [world]
    for _ in range(most):
        if moves(line[-1]):
            line.append(go(line[-1], *chance.choice(moves(line[-1]))))
    found = []
    for _ in range(count):
        moment = chance.randint(0, most)
        after = line[moment] if moment < len(line) and chance.random() < rightly else chance.choice(class_of(world))
        kind, at = chance.choice([("way", 0), ("place", 1), ("name", 2)])
        pairs = picture_of(after)[at]
        if pairs:
            found.append((moment, kind, *chance.choice(pairs)))
    return sorted(set(found))


def small_worlds(count, seed):
    """So many worlds of small classes, the same ones in each run."""
    return [world for world in some_worlds(count, seed=seed, places=4, ways=4, walkers=2) if len(class_of(world)) <= 60]


class Making(Case):
    def test_ascending(self):
        entries = [(2, "place", "b", 1), [0, "way", "u", "b"], (0, "name", "al", "a"), (0, "place", "a", 2)]
        wanted = ((0, "name", "al", "a"), (0, "place", "a", 2), (0, "way", "u", "b"), (2, "place", "b", 1))
        self.same(make_diary(THREE, entries), (THREE, wanted))
        self.same(make_diary(entries=tuple(entries), world=THREE), (THREE, wanted))
        self.same(entries[1], [0, "way", "u", "b"])
        self.same(make_diary(THREE, ()), (THREE, ()))
        self.same(make_diary(THREE, [(8, "place", "a", 8), (0, "place", "a", 0)]),
                  (THREE, ((0, "place", "a", 0), (8, "place", "a", 8))))

    def test_contradicting_entries(self):
        entries = [(1, "way", "u", "b"), (1, "way", "u", "a"), (1, "place", "a", 1), (1, "place", "a", 2)]
        self.same(make_diary(THREE, entries), (THREE, tuple(sorted(entries))))

    def test_numbers(self):
        for number in BAD_NUMBERS:
            self.fails(BadNumber(number), make_diary, PAIR, [(0, "way", "zz", "zz"), (number, "way", "u", "a")])
            self.fails(BadNumber(number), make_diary, PAIR, [(0, "place", "a", number), (number, "way", "u", "a")])
            self.fails(BadNumber(number), make_diary, PAIR, [[number, "place", "a", "many"], (-5, "way", "u", "a")])
            self.fails(BadNumber(number), make_diary, PAIR, [(0, "way", "zz", "zz"), (8, "place", "zz", number)])
        late = [(8, "place", "a", 8), (11, "place", "a", 10), (12, "way", "u", "a")]
        self.fails(BadNumber(11), make_diary, PAIR, late)
        self.fails(BadNumber(-7), make_diary, PAIR, [(0, "way", "u", "a")] * 9 + [(-7, "place", "a", 0)])

    def test_sizes(self):
        eight = [(moment, "place", "a", 1) for moment in range(8)]
        self.same(make_diary(PAIR, eight), (PAIR, tuple(eight)))
        self.fails(BadSize("entries", 9), make_diary, PAIR, [*eight, (8, "place", "a", 1)])
        self.fails(BadSize("entries", 9), make_diary, PAIR, eight[:1] * 9)
        self.fails(BadSize("entries", 40), make_diary, PAIR, [(0, "way", "zz", "zz")] * 40)

    def test_repeated(self):
        rows = [(0, "way", "u", "b"), (1, "way", "zz", "b"), (1, "way", "zz", "b"), [0, "way", "u", "b"]]
        self.fails(Repeated("zz"), make_diary, PAIR, rows)
        self.fails(Repeated("u"), make_diary, PAIR, [rows[0], rows[3], rows[1], rows[2]])
        self.fails(Repeated("a"), make_diary, PAIR, [(0, "place", "a", 1), (1, "place", "a", 1), (0, "place", "a", 1)])
        same = [(0, "place", "a", 1), (1, "place", "a", 1), (0, "place", "a", 0), (0, "place", "b", 1)]
        self.same(make_diary(PAIR, same), (PAIR, tuple(sorted(same))))
        names = make_world(make_web(["u", "b"], [("u", "u", "b")]), named=[("u", "u")])
        same = [(0, "way", "u", "b"), (0, "name", "u", "b")]
        self.same(make_diary(names, same), (names, tuple(sorted(same))))

    def test_unknown(self):
        late = (0, "way", "zz", "zz")
        for entry, error in (
            ((0, "way", "zz", "yy"), Unknown("way", "zz")), ((0, "way", "u", "yy"), Unknown("place", "yy")),
            ((0, "way", "a", "a"), Unknown("way", "a")), ((0, "way", "al", "a"), Unknown("way", "al")),
            ((0, "place", "zz", 0), Unknown("place", "zz")), ((0, "place", "u", 8), Unknown("place", "u")),
            ((0, "name", "zz", "yy"), Unknown("walker", "zz")), ((0, "name", "al", "yy"), Unknown("place", "yy")),
            ((0, "name", "a", "a"), Unknown("walker", "a")), ((8, "name", "", "a"), Unknown("walker", "")),
        ):
            self.fails(error, make_diary, THREE, [entry, late])
            self.fails(error, make_diary, THREE, [(0, "way", "u", "c"), list(entry), late])

    def test_wrong_ends(self):
        rows = [(5, "way", "u", "b"), (4, "way", "w", "a"), (3, "way", "u", "c")]
        self.fails(BadEnd("w", "a"), make_diary, THREE, rows)
        self.fails(BadEnd("u", "c"), make_diary, THREE, rows[::-1])
        self.same(make_diary(THREE, [(0, "way", "w", "b"), (0, "way", "w", "c")])[1],
                  ((0, "way", "w", "b"), (0, "way", "w", "c")))

    def test_large_worlds(self):
        rows = [(f"w{k}", "a", "b") for k in range(9)]
        nine = make_world(make_web(["a", "b"], rows), alike=[("a", 1)])
        self.fails(TooLarge("live", 9), make_diary, nine, ())
        self.fails(BadEnd("w0", "c"), make_diary,
                   make_world(make_web(["a", "b", "c"], rows), alike=[("a", 1)]), [(0, "way", "w0", "c")])
        self.fails(Unknown("place", "c"), make_diary, nine, [(0, "place", "c", 1)])
        eight = make_world(make_web(["a", "b"], rows[:8]), heads=[(row[0], "a") for row in rows[:8]], alike=[("b", 8)])
        self.same((len(live_ways(eight)), count_class(eight)), (8, 256))
        self.fails(TooLarge("class", 256), make_diary, eight, ())

    def test_classes_of_100_and_101_worlds(self):
        full, more = sized(100), sized(101)
        self.same((count_class(full), len(class_of(full))), (100, 100))
        self.same((count_class(more), len(class_of(more))), (101, 101))
        self.same(make_diary(full, ()), (full, ()))
        self.fails(TooLarge("class", 101), make_diary, more, ())


class Runs(Case):
    def check(self, world, entries):
        """All answers about the diary are those that a search through all histories gives."""
        diary = make_diary(world, entries)
        runs = runs_of(world, entries)
        run = find_run(diary)
        self.same((fits_diary(diary), run is None), (runs != [], runs == []))
        self.same(run, find_run(diary))
        if run is not None:
            self.same((is_run(diary, run), len(run)), (True, last_of(entries)))
            self.assertIn(list(run), [deeds for deeds, worlds in runs])
        for moment in range(last_of(entries) + 1):
            worlds = {run[1][moment] for run in runs}
            self.same(worlds_at(diary, moment), sorted(worlds, key=lambda end: (end[1], standing_of(end))))
            self.check_pictures(diary, moment, worlds)
        return runs

    def check_pictures(self, diary, moment, worlds):
        """What all these worlds have in common, and what some of them have."""
        pictures = [picture_of(world) for world in worlds]
        common = [sorted(set.intersection(*[set(picture[at]) for picture in pictures])) for at in range(3) if pictures]
        self.same(must_at(diary, moment), tuple(map(tuple, common)) if worlds else None)
        for at, kind in enumerate(("way", "place", "name")):
            for subject, _ in picture_of(diary[0])[at]:
                values = sorted({value for picture in pictures for name, value in picture[at] if name == subject})
                self.same(may_at(diary, moment, kind, subject), values)

    def test_small_worlds(self):
        many = {True: 0, False: 0}
        for at, world in enumerate(small_worlds(60, 301)):
            for step in range(3):
                most = 4 if len(moves(world)) < 3 else 3
                entries = some_entries(world, 1 + 2 * step, seed=10 * at + step, most=most)
                many[self.check(world, entries) != []] += 1
        self.assertGreater(min(many.values()), 20)

    def test_each_run_and_no_other_history(self):
        for at, world in enumerate(small_worlds(30, 302)):
            entries = some_entries(world, 2, seed=at, most=3)
            diary = make_diary(world, entries)
            runs = [tuple(deeds) for deeds, worlds in runs_of(world, entries)]
            for count in range(last_of(entries) + 2):
                for deeds in histories_of(world, count):
                    self.same(is_run(diary, deeds), deeds in runs)

    def test_later_entries_count(self):
        diary = make_diary(THREE, [(2, "name", "al", "c")])
        self.same(find_run(diary), (("u", "al"), ("w", "al")))
        self.same([place_of(world, "al") for world in worlds_at(diary, 1)], ["b"])
        self.same(may_at(diary, 1, "name", "al"), ["b"])
        self.same((may_at(diary, 0, "place", "a"), may_at(diary, 2, "place", "a"), may_at(diary, 2, "way", "w")),
                  ([2], [1], ["b"]))
        self.same(must_at(diary, 0), picture_of(THREE))
        self.same(must_at(moment=1, diary=diary), picture_of(go(THREE, "u", "al")))
        self.same(worlds_at(moment=0, diary=diary), [THREE])
        self.same(may_at(subject="al", kind="name", moment=2, diary=diary), ["c"])

    def test_no_entries(self):
        for world in [THREE, PAIR, STILL, *small_worlds(10, 303)]:
            diary = make_diary(world, ())
            self.same((fits_diary(diary), find_run(diary), is_run(diary, ())), (True, (), True))
            self.same((worlds_at(diary, 0), must_at(diary, 0)), ([world], picture_of(world)))
            self.judges(lambda value: is_run(diary, value), [[], None, 0, "", ((),), False], False)

    def test_moment_nought_and_eight(self):
        self.same(fits_diary(make_diary(PAIR, [(0, "way", "u", "b"), (0, "place", "a", 1)])), True)
        self.same(fits_diary(make_diary(PAIR, [(0, "way", "u", "b"), (0, "place", "a", 0)])), False)
        eight = make_diary(PAIR, [(8, "way", "u", "b"), (8, "way", "v", "a")])
        self.same((len(find_run(eight)), is_run(eight, find_run(eight))), (8, True))
        # After an even number of deeds an even number of the two ways is turned.
        self.same(fits_diary(make_diary(PAIR, [(8, "way", "u", "a"), (8, "way", "v", "a")])), False)
        self.same(fits_diary(make_diary(PAIR, [(7, "way", "u", "a"), (7, "way", "v", "a")])), True)
        self.same(len(trace(PAIR, find_run(eight))), 9)

    def test_no_deed_is_possible(self):
        for world in (STILL, make_world(make_web(["a", "b"], []), alike=[("a", 1)])):
            self.same(fits_diary(make_diary(world, [(0, "place", "b", 0)])), True)
            for moment in (1, 8):
                diary = make_diary(world, [(moment, "place", "b", 0)])
                self.same((fits_diary(diary), find_run(diary), worlds_at(diary, 0)), (False, None, []))
                self.same((must_at(diary, moment), may_at(diary, 1, "place", "a")), (None, []))

    def test_contradictions(self):
        diary = make_diary(THREE, [(1, "way", "u", "b"), (1, "way", "u", "a")])
        self.same((fits_diary(diary), find_run(diary)), (False, None))
        for moment in (0, 1):
            self.same((worlds_at(diary, moment), must_at(diary, moment), may_at(diary, moment, "way", "u")),
                      ([], None, []))

    def test_new_lists(self):
        diary = make_diary(THREE, [(2, "name", "al", "c")])
        worlds_at(diary, 0).append("more")
        may_at(diary, 0, "way", "u").append("more")
        self.same((worlds_at(diary, 0), may_at(diary, 0, "way", "u")), ([THREE], ["b"]))

    def test_wrong_moments_and_subjects(self):
        fits, not_so = [make_diary(THREE, [(2, "name", "al", place)]) for place in ("c", "b")]
        self.same((fits_diary(fits), fits_diary(not_so)), (True, False))
        for diary in (fits, not_so):
            for moment in (*BAD_NUMBERS, 3, 8):
                self.fails(BadNumber(moment), worlds_at, diary, moment)
                self.fails(BadNumber(moment), must_at, diary, moment)
                self.fails(BadNumber(moment), may_at, diary, moment, "way", "zz")
            for kind, subject, what in (("way", "al", "way"), ("place", "u", "place"), ("name", "a", "walker"),
                                        ("way", "", "way"), ("place", "zz", "place"), ("name", "zz", "walker")):
                self.fails(Unknown(what, subject), may_at, diary, 2, kind, subject)
        self.fails(BadNumber(1), worlds_at, make_diary(THREE, ()), 1)


class Judged(Case):
    def test_each_condition_alone(self):
        diary = make_diary(THREE, [(0, "place", "a", 2), (1, "place", "b", 1), (2, "name", "al", "c")])
        self.same(is_run(diary, (("u", "al"), ("w", "al"))), True)
        self.same(is_run(deeds=(("u", "al"), ("w", "al")), diary=diary), True)
        wrong = [
            (("u", "al"),), (("u", "al"), ("w", "al"), ("w", "al")), (("u", "al"), ("u", "al")),
            (("u", None), ("w", "al")), (("u", "al"), ("v", "al")), (("w", "al"), ("u", "al")), (),
            (("u", "al"), ("w", None)), (("u", None), ("w", None)), (("v", "al"), ("w", "al")),
            (("u", "al"), ("zz", "al")), (("u", "al"), ("w", "zz")),
        ]
        self.judges(lambda value: is_run(diary, value), wrong, False)
        early = make_diary(THREE, [(0, "place", "a", 1), (2, "name", "al", "c")])
        between = make_diary(THREE, [(1, "place", "b", 0), (2, "name", "al", "c")])
        for other in (early, between):
            self.same(is_run(other, (("u", "al"), ("w", "al"))), False)

    def test_other_values(self):
        diary = make_diary(PAIR, [(1, "way", "u", "a")])
        self.same(is_run(diary, (("u", None),)), True)
        values = [value for value in ODD_VALUES if value != (("u", None),)]
        values += [
            [("u", None)], (["u", None],), (("u",),), (("u", None, None),), (("u", False),), (("u", 0),),
            ((None, None),),
            ((("u",), None),), (("u", None), ()), (("u", ""),), (("u", ("a",)),), "u", ("u",),
        ]
        self.judges(lambda value: is_run(diary, value), values, False)


class Largest(Case):
    def test_hundred_worlds_and_eight_entries(self):
        world = sized(100)
        for seed in range(6):
            entries = some_entries(world, 9, seed=seed, most=8, rightly=0.97)[:8]
            diary = make_diary(world, entries)
            run = find_run(diary)
            self.same(fits_diary(diary), run is not None)
            for moment in range(last_of(entries) + 1):
                worlds = worlds_at(diary, moment)
                self.same(worlds == [], run is None)
                if run is not None:
                    self.same((is_run(diary, run), trace(world, run)[moment] in worlds), (True, True))
