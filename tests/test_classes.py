"""Points 47 to 49, and 18: class order, ranks, members, keys, and the numbers of worlds of a class."""

from math import comb

from tests.support import Case, apart, class_of, every_world, largest_worlds, sample_world, some_worlds, two_ways
from tests.support import wander
from tests.test_pictures import EMPTY, WRONG, some_pictures, told_in
from turnbehind.classes import class_key, count_class, count_fits, count_pointings
from turnbehind.classes import least_member, member, members, rank_of
from turnbehind.errors import BadNumber, TooLarge
from turnbehind.histories import replay
from turnbehind.papers import comes_of
from turnbehind.pictures import make_picture, picture_of
from turnbehind.reaches import dues, live_ways, reach, region_of
from turnbehind.standings import standing_of
from turnbehind.worlds import beside, head_of, make_web, make_world, names_of, place_of

# Classes of exactly so many worlds.
TWO_HUNDRED = make_world(
    make_web(["a", "b", "c"], [
        ("s", "a", "c"), ("t", "a", "b"), ("u", "a", "c"), ("v", "b", "c"), ("w", "a", "c"), ("x", "a", "b"),
        ("y", "b", "c"), ("z", "a", "c"),
    ]),
    heads=[("s", "c"), ("t", "b"), ("u", "a"), ("v", "b"), ("w", "a"), ("x", "a"), ("y", "c"), ("z", "c")],
    alike=[("a", 1)], named=[("al", "b")],
)
ONE_MORE = make_world(
    make_web(["a", "b", "c"], [("u", "b", "c"), ("v", "a", "c"), ("w", "b", "c"), ("x", "a", "c"), ("y", "b", "c")]),
    heads=[("u", "b"), ("v", "a"), ("w", "b"), ("x", "c"), ("y", "c")],
    named=[("al", "c"), ("bo", "c"), ("cy", "c"), ("dy", "a")],
)


def sheaf(ways, crowd, still=0):
    """A world of many ways between a and b, where such walkers stand, and of still ways between c and d."""
    rows = [(f"w{k:02d}", "a", "b") for k in range(ways)] + [(f"x{k:02d}", "c", "d") for k in range(still)]
    return make_world(make_web(["a", "b", "c", "d"], rows), **crowd)


def in_order(world):
    """All worlds of the class, in class order."""
    return sorted(class_of(world), key=lambda end: (end[1], standing_of(end)))


class Order(Case):
    def test_example_of_the_document(self):
        world = two_ways(heads=[("v", "a")], alike=[("a", 1)])
        self.same((count_class(world), rank_of(world), least_member(world)[1]), (3, 2, ("a", "a")))

    def test_small_classes(self):
        for world in some_worlds(120, seed=131, places=4, ways=7, walkers=4):
            worlds = in_order(world)
            self.same(count_class(world), len(worlds))
            self.same(count_pointings(world), len({end[1] for end in worlds}))
            self.same((least_member(world), member(world, 0)), (worlds[0], worlds[0]))
            self.same(member(world, len(worlds) - 1), worlds[-1])
            if len(worlds) <= 200:
                self.same(members(world), worlds)
            for rank in range(0, len(worlds), len(worlds) // 12 + 1):
                self.same(rank_of(worlds[rank]), rank)
                self.same(member(worlds[-1], rank), worlds[rank])

    def test_new_list(self):
        world = two_ways(heads=[("v", "a")], alike=[("a", 1)])
        members(world).append("more")
        self.same(members(world), in_order(world))

    def test_names_make_the_order(self):
        world = two_ways(heads=[("v", "a")], alike=[("a", 1)], named=[("al", "b"), ("bo", "a")])
        worlds = in_order(world)
        self.same(members(world=world), worlds)
        self.same([rank_of(end) for end in worlds], list(range(len(worlds))))
        self.assertGreater(len(worlds), count_pointings(world=world))

    def test_ranks_of_worlds_that_cannot_be_listed(self):
        names = [(f"n{k}", "ab"[k % 2]) for k in range(8)]
        world = sheaf(8, {"named": names})
        size = count_class(world)
        # The due of a is 4: where it is the tail of so many ways, so many less 4 of the eight named walkers stand.
        self.same(size, sum(comb(8, tails) * comb(8, tails - 4) for tails in range(4, 9)))
        for rank in (0, 1, size // 3, size // 2, size - 2, size - 1):
            self.same(rank_of(member(world, rank)), rank)
        self.same(comes_of(world, member(rank=size - 1, world=world)), True)
        self.fails(TooLarge("class", size), members, world)

    def test_class_of_one_world(self):
        for world in (two_ways(), make_world(make_web(["a", "b"], []), named=[("al", "a")])):
            self.same((count_class(world), count_pointings(world), rank_of(world)), (1, 1, 0))
            self.same((members(world), member(world, 0), least_member(world)), ([world], world, world))
            self.fails(BadNumber(1), member, world, 1)

    def test_two_hundred_worlds(self):
        self.same((len(class_of(TWO_HUNDRED)), count_class(TWO_HUNDRED)), (200, 200))
        self.same(members(TWO_HUNDRED), in_order(TWO_HUNDRED))
        self.same((len(class_of(ONE_MORE)), count_class(ONE_MORE)), (201, 201))
        self.fails(TooLarge("class", 201), members, ONE_MORE)
        self.same(member(ONE_MORE, 200), in_order(ONE_MORE)[200])
        self.same(rank_of(member(ONE_MORE, 200)), 200)

    def test_least_member_of_any_class(self):
        for at, world in enumerate(largest_worlds(10, seed=132)):
            least = least_member(world)
            self.same(comes_of(world, least), True)
            for step in range(5):
                end = replay(world, wander(world, 60, seed=10 * at + step))
                self.same(least_member(world=end), least)
                self.assertLessEqual((least[1], standing_of(least)), (end[1], standing_of(end)))

    def test_heads_tell_the_walkers(self):
        for world in some_worlds(30, seed=133, places=4, ways=6, walkers=3):
            found = {}
            for end in class_of(world):
                sizes = [alike + len(names) for alike, names in end[2]]
                self.same(found.setdefault(end[1], sizes), sizes)
            self.same(count_pointings(world), len(found))


class Counts(Case):
    def test_fits(self):
        for at, world in enumerate(some_worlds(60, seed=134, places=4, ways=7, walkers=4)):
            worlds = class_of(world)
            for picture in [EMPTY, picture_of(world), *some_pictures(world, 10, seed=at), *some_pictures(worlds[0], 5)]:
                self.same(count_fits(world, picture), len([end for end in worlds if told_in(end, picture)]))

    def test_told_names_alone(self):
        world = two_ways(heads=[("v", "a")], named=[("al", "a"), ("bo", "b")])
        for spots in ([("al", "a")], [("al", "a"), ("bo", "a")], [("al", "b"), ("bo", "b")], [("bo", "a")]):
            picture = make_picture(spots=spots)
            wanted = len([end for end in class_of(world) if told_in(end, picture)])
            self.same(count_fits(picture=picture, world=world), wanted)

    def test_beside(self):
        cases = some_worlds(40, seed=135, places=3, ways=4, walkers=2)
        for one, two in zip(cases, cases[1:]):
            joint = beside(one, apart(two))
            self.same(count_class(joint), count_class(one) * count_class(two))
            self.same(count_pointings(joint), count_pointings(one) * count_pointings(two))

    def test_many_worlds_fit(self):
        world = sheaf(8, {"named": [(f"n{k}", "ab"[k % 2]) for k in range(8)]})
        self.same(count_fits(world, EMPTY), count_class(world))
        self.assertGreater(count_class(world), 200)
        fits = [count_fits(world, make_picture(spots=[("n0", place)])) for place in "ab"]
        self.same(sum(fits), count_class(world))


class TooMany(Case):
    def test_eight_and_nine_live_ways(self):
        eight = sheaf(8, {"alike": [("a", 1)]}, still=6)
        nine = sheaf(9, {"alike": [("a", 1)]}, still=5)
        self.same((len(live_ways(eight)), len(live_ways(nine))), (8, 9))
        self.same((count_pointings(eight), count_class(eight)), (len(class_of(eight)),) * 2)
        self.same(member(eight, rank_of(eight)), eight)
        self.same(count_fits(eight, picture_of(eight)), 1)
        for call in (count_pointings, count_class, members, rank_of):
            self.fails(TooLarge("live", 9), call, nine)
        for rank in (0, 1, 511, 10 ** 19):
            self.fails(TooLarge("live", 9), member, nine, rank)
        for picture in (EMPTY, picture_of(nine), make_picture(counts=[("a", 8), ("b", 8)])):
            self.fails(TooLarge("live", 9), count_fits, nine, picture)
        self.same(comes_of(nine, least_member(nine)), True)

    def test_live_ways_before_the_number_of_worlds(self):
        world = sheaf(14, {"named": [(f"n{k}", "a") for k in range(8)]})
        self.fails(TooLarge("live", 14), members, world)

    def test_wrong_ranks(self):
        world = two_ways(heads=[("v", "a")], alike=[("a", 1)])
        nine = sheaf(9, {"alike": [("a", 1)]})
        for rank in (None, True, False, "", "0", -1, -10 ** 19):
            self.fails(BadNumber(rank), member, world, rank)
            self.fails(BadNumber(rank), member, rank=rank, world=nine)
        for rank in (3, 4, 10 ** 19):
            self.fails(BadNumber(rank), member, world, rank)

    def test_wrong_pictures(self):
        for told, error in WRONG:
            self.fails(error, count_fits, sample_world(), make_picture(**told))
        for told, error in WRONG:
            web = (sample_world()[0][0], (*sample_world()[0][1], *[(f"zy{k}", "a", "b") for k in range(8)]))
            large = make_world(web, named=[("al", "a"), ("bo", "a"), ("cy", "a")])
            self.assertGreater(len(live_ways(large)), 8)
            self.fails(error, count_fits, large, make_picture(**told))


class Key(Case):
    def test_parts(self):
        for world in [sample_world(), *some_worlds(40, seed=136)]:
            still = tuple((row[0], head_of(world, row[0])) for row in world[0][1] if row[0] not in live_ways(world))
            homes = tuple((name, region_of(world, place_of(world, name))) for name in names_of(world))
            self.same(class_key(world), (world[0], dues(world), reach(world), still, homes))
        self.same(class_key(world=two_ways()), (two_ways()[0], (2, 0), (), (("u", "b"), ("v", "b")), ()))

    def test_equal_exactly_in_one_class(self):
        web = make_web(["a", "b", "c"], [("u", "a", "b"), ("v", "b", "c"), ("w", "a", "b")])
        for alike, names in ((1, ["al"]), (2, []), (0, ["al", "bo"])):
            worlds = every_world(web, alike, names)
            for one in worlds[::5]:
                for other in worlds:
                    self.same(class_key(one) == class_key(other), comes_of(one, other))
        self.assertNotEqual(class_key(two_ways(named=[("al", "b")])), class_key(two_ways(named=[("bo", "b")])))
        self.assertNotEqual(class_key(two_ways(named=[("al", "b")])), class_key(two_ways(alike=[("b", 1)])))

    def test_largest_worlds(self):
        for at, world in enumerate(largest_worlds(10, seed=137)):
            self.same(class_key(replay(world, wander(world, 100, seed=at))), class_key(world))
