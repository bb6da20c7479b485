"""Point 50: shapes, and renamings that make one world another."""

import random
from itertools import permutations

from tests.support import Case, every_world, some_worlds, two_ways
from turnbehind.errors import Named, TooLarge
from turnbehind.shapes import find_renaming, shape
from turnbehind.worlds import bag_at, head_of, make_web, make_world, rename_world, tail_of, unnamed


def numbered(world, places):
    """The counts and the ways by number, if the places are numbered in this order."""
    counts = tuple(bag_at(world, place).many for place in places)
    ways = [(places.index(tail_of(world, row[0])), places.index(head_of(world, row[0]))) for row in world[0][1]]
    return (counts, tuple(sorted(ways)))


def shuffled(world, seed):
    """The world with other names in another order."""
    chance = random.Random(seed)
    places = [f"q{k}" for k in range(len(world[0][0]))]
    ways = [f"z{k:02d}" for k in range(len(world[0][1]))]
    chance.shuffle(places)
    chance.shuffle(ways)
    return rename_world(
        world, places=list(zip(world[0][0], places)), ways=list(zip([row[0] for row in world[0][1]], ways)),
    )


def large(places, names=(), ways=0):
    """A world of so many places and ways, with these names."""
    spots = [f"p{k}" for k in range(places)]
    rows = [(f"w{k:02d}", *spots[k % 2:k % 2 + 2]) for k in range(ways)]
    return make_world(make_web(spots, rows), named=[(name, "p0") for name in names])


class Shape(Case):
    def test_small(self):
        self.same(shape(two_ways(heads=[("v", "a")], alike=[("a", 1)])), ((0, 1), ((0, 1), (1, 0))))
        self.same(shape(two_ways(alike=[("a", 1)])), ((0, 1), ((1, 0), (1, 0))))
        self.same(shape(two_ways(alike=[("b", 1)])), ((0, 1), ((0, 1), (0, 1))))
        self.same(shape(two_ways()), ((0, 0), ((0, 1), (0, 1))))
        self.same(shape(world=make_world(make_web(["a", "b", "c"], []), alike=[("a", 3)])), ((0, 0, 3), ()))

    def test_least_of_all_numberings(self):
        for world in some_worlds(60, seed=141, places=5, ways=7):
            world = unnamed(world)
            self.same(shape(world), min(numbered(world, places) for places in permutations(world[0][0])))

    def test_equal_exactly_if_renamed(self):
        web = make_web(["a", "b", "c"], [("u", "a", "b"), ("v", "b", "c"), ("w", "a", "b")])
        worlds = every_world(web, 2)
        for one in worlds[::4]:
            for other in worlds:
                self.same(find_renaming(one, other) is not None, shape(one) == shape(other))
                renamings = [
                    rename_world(one, places=list(zip(web[0], places)), ways=list(zip("uvw", ways)))
                    for places in permutations(web[0]) for ways in permutations("uvw")
                ]
                self.same(shape(one) == shape(other), other in renamings)

    def test_largest(self):
        world = make_world(large(5, ways=14)[0], alike=[("p0", 4), ("p4", 4)])
        self.same(shape(shuffled(world, 3)), shape(world))
        self.same(shape(world), min(numbered(world, places) for places in permutations(world[0][0])))

    def test_errors(self):
        self.fails(Named(("al", "bo")), shape, two_ways(named=[("bo", "a"), ("al", "b")]))
        self.fails(Named(("al",)), shape, world=large(6, ["al"]))
        self.fails(TooLarge("places", 6), shape, large(6))
        self.fails(TooLarge("places", 10), shape, large(10))
        self.same(shape(large(5)), ((0, 0, 0, 0, 0), ()))


class Renaming(Case):
    def check(self, one, other):
        """The renaming makes the one world the other; it has a pair for each place and each way, ascending."""
        places, ways = find_renaming(one, other)
        self.plain((places, ways))
        self.assertIs(type(find_renaming(one, other)), tuple)
        self.assertEqual([pair[0] for pair in places], list(one[0][0]))
        self.assertEqual([pair[0] for pair in ways], [row[0] for row in one[0][1]])
        self.assertTrue(all(type(pair) is tuple and len(pair) == 2 for pair in (*places, *ways)))
        self.same(rename_world(one, places=places, ways=ways), other)
        self.same(find_renaming(one, other), (places, ways))

    def test_found(self):
        for at, world in enumerate(some_worlds(80, seed=142, places=5, ways=9)):
            world = unnamed(world)
            self.check(world, shuffled(world, at))
            self.check(shuffled(world, at), world)
            self.check(world, world)

    def test_equal_names_are_told_too(self):
        world = two_ways(heads=[("v", "a")], alike=[("a", 1)])
        self.same(find_renaming(world, world), ((("a", "a"), ("b", "b")), (("u", "u"), ("v", "v"))))
        other = two_ways(heads=[("u", "a")], alike=[("b", 1)])
        self.same(find_renaming(one=world, other=other), ((("a", "b"), ("b", "a")), (("u", "u"), ("v", "v"))))

    def test_none(self):
        world = two_ways(heads=[("v", "a")], alike=[("a", 1)])
        others = [
            two_ways(heads=[("v", "a")]), two_ways(heads=[("v", "a")], alike=[("a", 2)]), two_ways(alike=[("a", 1)]),
            make_world(make_web(["a", "b"], [("u", "a", "b")]), alike=[("a", 1)]), large(3), large(2),
            make_world(make_web(["a", "b", "c"], [("u", "a", "b"), ("v", "a", "b")]), heads=[("v", "a")],
                       alike=[("a", 1)]),
        ]
        for other in others:
            self.same(find_renaming(world, other), None)
            self.same(find_renaming(other, world), None)

    def test_errors(self):
        bare, named = two_ways(), two_ways(named=[("al", "a")])
        other = two_ways(named=[("cy", "a"), ("bo", "a")])
        self.fails(Named(("al",)), find_renaming, named, other)
        self.fails(Named(("bo", "cy")), find_renaming, other, named)
        self.fails(Named(("al",)), find_renaming, bare, named)
        self.fails(Named(("al",)), find_renaming, large(6), named)
        self.fails(Named(("al",)), find_renaming, large(6, ["al"]), large(7))
        self.fails(TooLarge("places", 6), find_renaming, bare, large(6))
        self.fails(TooLarge("places", 7), find_renaming, one=large(7), other=large(6))
        self.fails(TooLarge("places", 6), find_renaming, large(6), large(6))
