"""Points 30 and 31: meeting places, chains, exchanges of two walkers."""

from tests.support import ODD_VALUES, Case, sample_world, some_worlds, two_ways
from turnbehind.errors import Unknown
from turnbehind.exchanges import exchanged, find_chain, find_exchange, is_chain, meeting
from turnbehind.histories import is_history
from turnbehind.reaches import can_come, region_of
from turnbehind.worlds import bag_at, make_web, make_world, names_of, place_of


def row_of_valleys(places, **told):
    """A world in which the ways of a row of places point to each second place."""
    spots = [f"p{k}" for k in range(places)]
    rows = [(f"w{k}", spots[k], spots[k + 1]) for k in range(places - 1)]
    heads = [(f"w{k}", spots[k + 1 - k % 2]) for k in range(places - 1)]
    return make_world(make_web(spots, rows), heads=heads, **told)


class Meeting(Case):
    def test_least_place(self):
        web = make_web(["a", "b", "c", "d"], [("u", "c", "d"), ("v", "c", "b"), ("w", "d", "b"), ("x", "a", "b")])
        world = make_world(web, heads=[("u", "d"), ("v", "b"), ("w", "b"), ("x", "b")])
        self.same(meeting(world, "c", "d"), "b")
        self.same(meeting(world, "c", "a"), "b")
        self.same(meeting(world, "b", "b"), "b")
        self.same(meeting(world, "d", "d"), "b")
        self.same(meeting(other="c", place="a", world=world), "b")

    def test_one_of_the_two_and_none(self):
        world = two_ways(heads=[("u", "b"), ("v", "b")])
        self.same((meeting(world, "a", "b"), meeting(world, "b", "a")), ("b", "b"))
        self.same((meeting(world, "a", "a"), meeting(world, "b", "b")), ("a", "b"))
        empty = make_world(make_web(["a", "b"], []))
        self.same((meeting(empty, "a", "b"), meeting(empty, "a", "a")), (None, "a"))

    def test_as_can_come_tells(self):
        for world in some_worlds(40, seed=51):
            places = world[0][0]
            for one in places:
                for other in places:
                    spots = [p for p in places if can_come(world, one, p) and can_come(world, other, p)]
                    self.same(meeting(world, one, other), spots[0] if spots else None)

    def test_unknown(self):
        for call in (meeting, find_chain):
            self.fails(Unknown("place", "zz"), call, two_ways(), "zz", "yy")
            self.fails(Unknown("place", "yy"), call, two_ways(), "a", "yy")
            self.fails(Unknown("place", ""), call, two_ways(), "", "a")


class Chains(Case):
    def test_found_exactly_within_a_region(self):
        for world in [sample_world(), *some_worlds(100, seed=52, places=6)]:
            for one in world[0][0]:
                for other in world[0][0]:
                    chain = find_chain(world, one, other)
                    there = bool(bag_at(world, one)) and bool(bag_at(world, other))
                    if there and region_of(world, one) == region_of(world, other):
                        self.assertLessEqual(len(chain), 10)
                        self.assertIs(is_chain(world, one, other, chain), True)
                        self.plain(chain)
                        self.same(find_chain(world, one, other), chain)
                    else:
                        self.same(chain, None)

    def test_longest_chain(self):
        world = row_of_valleys(10, alike=[("p0", 1), ("p2", 1), ("p4", 1), ("p6", 1), ("p8", 1)])
        self.same(find_chain(world, "p0", "p8"), ("p0", "p2", "p4", "p6", "p8"))
        self.same(find_chain(world, "p8", "p0"), ("p8", "p6", "p4", "p2", "p0"))
        self.same(find_chain(other="p0", place="p0", world=world), ("p0",))

    def test_none_without_a_walker(self):
        world = row_of_valleys(5, alike=[("p0", 1), ("p4", 1)])
        for one, other in (("p0", "p4"), ("p0", "p2"), ("p2", "p0"), ("p2", "p2")):
            self.same(find_chain(world, one, other), None)
            self.assertIs(is_chain(world, one, other, (one, other)), False)
        self.same(find_chain(world, "p0", "p0"), ("p0",))
        self.same(find_chain(two_ways(), "a", "a"), None)

    def test_judged(self):
        world = row_of_valleys(5, alike=[("p0", 1), ("p2", 1)], named=[("al", "p4")])
        chains = [
            ("p0", "p2", "p4"), ("p0", "p0", "p2", "p4"), ("p0", "p2", "p0", "p2", "p4", "p4"),
            ("p0", "p2", "p4", "p2", "p4"),
        ]
        self.judges(lambda value: is_chain(world, "p0", "p4", value), chains, True)
        self.judges(lambda value: is_chain(world, "p0", "p4", value), [
            ("p0", "p4"), ("p0", "p1", "p2", "p4"), ("p0", "p2"), ("p2", "p4"), ("p4", "p2", "p0"), (), ("p0",),
            ["p0", "p2", "p4"], ("p0", "p2", ["p4"]), ("p0", ("p2",), "p4"), ("p0", "zz", "p4"), ("p0", None, "p4"),
            ("p0", True, "p4"), ("p0", 2, "p4"), "p0p2p4", (("p0", "p2", "p4"),), ("p0", "", "p4"), ("p4",),
            ("p0", "p2", "p4", "p3"),
        ], False)
        self.assertIs(is_chain(chain=("p2",), other="p2", place="p2", world=world), True)
        self.assertIs(is_chain(world, "p2", "p2", ("p2", "p2")), True)
        self.assertIs(is_chain(world, "p1", "p1", ("p1",)), False)

    def test_long_value(self):
        world = row_of_valleys(5, alike=[("p0", 1), ("p2", 1)])
        self.assertIs(is_chain(world, "p0", "p2", ("p0", "p2") * 1500), True)
        self.assertIs(is_chain(world, "p0", "p2", ("p0", "p2") * 1499 + ("p1", "p2")), False)

    def test_other_values(self):
        world = two_ways(alike=[("b", 1)])
        self.judges(lambda value: is_chain(world, "b", "b", value), ODD_VALUES, False)
        self.judges(lambda value: is_chain(world, "a", "a", value), [*ODD_VALUES, ("a",), ()], False)

    def test_unknown_whatever_the_value_is(self):
        for value in (("a",), (), None, True, [], ("zz",)):
            self.fails(Unknown("place", "zz"), is_chain, two_ways(), "zz", "yy", value)
            self.fails(Unknown("place", "yy"), is_chain, two_ways(), "a", "yy", value)


class Exchange(Case):
    def check(self, world, one, other):
        """The world with the two walkers exchanged is right, and so is the history that leads to it."""
        start, goal = place_of(world, one), place_of(world, other)
        found = exchanged(world, one, other)
        deeds = find_exchange(world, one, other)
        if region_of(world, start) != region_of(world, goal):
            self.same((found, deeds), (None, None))
            return
        spots = {name: place_of(world, name) for name in names_of(world)}
        spots[one], spots[other] = goal, start
        alike = [(place, pair[0]) for place, pair in zip(world[0][0], world[2])]
        heads = [(row[0], head) for row, head in zip(world[0][1], world[1])]
        self.same(found, make_world(world[0], heads=heads, alike=alike, named=list(spots.items())))
        self.plain(deeds)
        self.assertIs(is_history(world, deeds, found), True)
        self.assertLessEqual(len(deeds), 1000)
        self.same(find_exchange(world, one, other), deeds)
        if start == goal:
            self.same(deeds, ())

    def test_many_worlds(self):
        for world in [sample_world(), *some_worlds(150, seed=53, places=6, ways=9, walkers=8)]:
            for one in names_of(world):
                for other in names_of(world):
                    self.check(world, one, other)

    def test_along_a_chain_of_alike_and_named_walkers(self):
        told = {"alike": [("p2", 1), ("p6", 2)], "named": [("al", "p0"), ("bo", "p4"), ("cy", "p8"), ("dy", "p8")]}
        world = row_of_valleys(10, **told)
        for one in names_of(world):
            for other in names_of(world):
                self.check(world, one, other)

    def test_largest_world(self):
        spots = [f"p{k}" for k in range(10)]
        rows = [(f"w{k:02d}", spots[k % 9], spots[k % 9 + 1]) for k in range(14)]
        world = make_world(make_web(spots, rows), named=[(f"n{k}", f"p{k}") for k in range(8)])
        for k in range(8):
            self.check(world, "n0", f"n{k}")
            self.check(world, f"n{k}", "n7")

    def test_different_regions(self):
        self.same(exchanged(sample_world(), "al", "cy"), None)
        self.same(find_exchange(sample_world(), "cy", "bo"), None)
        self.same(exchanged(other="bo", one="al", world=sample_world())[2][0], (1, ("al",)))
        self.assertIs(type(find_exchange(other="bo", one="al", world=sample_world())), tuple)

    def test_same_walker_and_same_place(self):
        world = two_ways(named=[("al", "b"), ("bo", "b"), ("cy", "a")])
        for one, other in (("al", "al"), ("al", "bo"), ("bo", "al"), ("cy", "cy")):
            self.same(exchanged(world, one, other), world)
            self.same(find_exchange(world, one, other), ())

    def test_unknown(self):
        world = two_ways(named=[("al", "a")])
        for call in (exchanged, find_exchange):
            self.fails(Unknown("walker", "zz"), call, world, "zz", "yy")
            self.fails(Unknown("walker", "yy"), call, world, "al", "yy")
            self.fails(Unknown("walker", "a"), call, world, "a", "al")
            self.fails(Unknown("walker", ""), call, world, "", "al")
