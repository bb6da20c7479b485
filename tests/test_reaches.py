"""Points 13, 14, 17, 18 and 24 to 29: what can be come to, and what histories keep."""

from itertools import permutations

from tests.support import Case, class_of, sample_world, some_worlds, two_ways, wander
from turnbehind.errors import Unknown, Unlike
from turnbehind.histories import replay
from turnbehind.reaches import (
    broken, can_come, due, dues, is_shore, live_ways, reach, region_of, regions, road, still_ways,
)
from turnbehind.worlds import (
    bag_at, beside, differing, head_of, make_web, make_world, mirror, names_of, place_of, rename_world, tail_of,
)


def places_of(world):
    """The places of the world."""
    return world[0][0]


def ways_of(world):
    """The names of the ways of the world."""
    return [row[0] for row in world[0][1]]


def subsets(items):
    """All ascending tuples of some of the items."""
    found = [()]
    for item in items:
        found = found + [(*rest, item) for rest in found]
    return [tuple(sorted(rest)) for rest in found]


def nobody(*ways):
    """A world without walkers over the places a to d, with these ways (way, tail, head)."""
    web = make_web(["a", "b", "c", "d"], ways)
    return make_world(web, heads=[(way, head) for way, tail, head in ways])


class Dues(Case):
    def test_example(self):
        world = two_ways(heads=[("v", "a")], alike=[("a", 1)])
        self.same((dues(world), reach(world)), ((0, 1), ("a", "b")))

    def test_ways_out_less_walkers(self):
        self.same(dues(sample_world()), (-1, 2, -1, -1, 0, 2))
        self.same(dues(world=two_ways(alike=[("a", 3)], named=[("al", "a"), ("bo", "b")])), (-2, -1))
        for world in some_worlds(30, seed=31):
            wanted = [
                [tail_of(world, way) for way in ways_of(world)].count(place) - bag_at(world, place).many
                for place in places_of(world)
            ]
            self.same(dues(world), tuple(wanted))

    def test_due_of_one_place(self):
        world = sample_world()
        self.same(tuple([due(world, place) for place in "abcdef"]), dues(world))
        self.same(due(place="b", world=world), 2)
        for place in ("", "g", "u", "al"):
            self.fails(Unknown("place", place), due, world, place)

    def test_mirror(self):
        for world in some_worlds(30, seed=32):
            for place in places_of(world):
                ways = [row for row in world[0][1] if place in row[1:]]
                wanted = len(ways) - due(world, place) - 2 * bag_at(world, place).many
                self.same(due(mirror(world), place), wanted)


class Reach(Case):
    def test_sample(self):
        world = sample_world()
        self.same(reach(world), ("a", "b", "c", "d", "e"))
        self.same(live_ways(world), ("u", "v", "w", "x"))
        self.same(still_ways(world), ("y", "z"))
        self.same(regions(world), (("a", "b", "c"), ("d", "e")))
        self.same(reach(world=world), reach(world))
        self.same(regions(world=world), regions(world))
        self.same((live_ways(world=world), still_ways(world=world)), (live_ways(world), still_ways(world)))

    def test_no_walkers(self):
        world = nobody(("u", "a", "b"), ("v", "b", "a"))
        self.same(reach(world), ())
        self.same(regions(world), ())
        self.same((live_ways(world), still_ways(world)), ((), ("u", "v")))
        self.same([region_of(world, place) for place in "abcd"], [None] * 4)

    def test_a_place_without_a_live_way(self):
        world = make_world(make_web(["a", "b", "c"], [("u", "a", "b"), ("v", "a", "c")]), alike=[("b", 1), ("c", 2)])
        self.same(regions(world), (("b",), ("c",)))
        self.same((live_ways(world), still_ways(world)), ((), ("u", "v")))
        self.same([region_of(world, place) for place in "abc"], [None, ("b",), ("c",)])

    def test_ways_join_whichever_end_they_point_to(self):
        web = make_web(["a", "b", "c"], [("u", "a", "b"), ("v", "c", "b")])
        world = make_world(web, heads=[("u", "b"), ("v", "b")], alike=[("a", 1), ("c", 1)])
        self.same(regions(world), (("a", "b", "c"),))

    def test_regions_in_the_order_of_their_first_places(self):
        web = make_web(["a", "b", "c", "d"], [("u", "a", "d"), ("v", "b", "c")])
        world = make_world(web, heads=[("u", "a"), ("v", "b")], alike=[("d", 1), ("c", 1)])
        self.same(regions(world), (("a", "d"), ("b", "c")))

    def test_as_the_whole_class_tells(self):
        for world in some_worlds(60, seed=33, places=4, ways=5, walkers=3):
            found = class_of(world)
            come = [p for p in places_of(world) if any(bag_at(other, p) for other in found)]
            self.same(reach(world), tuple(come))
            heads = {way: {head_of(other, way) for other in found} for way in ways_of(world)}
            live = [way for way in ways_of(world) if heads[way] == set(self.ends(world, way))]
            self.same(live_ways(world), tuple(live))
            self.same(still_ways(world), tuple([way for way in ways_of(world) if way not in live]))
            for name in names_of(world):
                wanted = tuple(sorted({place_of(other, name) for other in found}))
                self.same(region_of(world, place_of(world, name)), wanted)

    def ends(self, world, way):
        """The two ends of the way."""
        return (head_of(world, way), tail_of(world, way))

    def test_regions_part_the_reach(self):
        for world in some_worlds(60, seed=34):
            parts = regions(world)
            self.same(tuple(sorted(p for part in parts for p in part)), reach(world))
            self.same(parts, tuple(sorted(parts)))
            for part in parts:
                self.same(part, tuple(sorted(part)))
            for place in places_of(world):
                wanted = [part for part in parts if place in part]
                self.same(region_of(world, place), wanted[0] if wanted else None)
            for way in live_ways(world):
                one, other = self.ends(world, way)
                self.same(region_of(world, one), region_of(world, other))

    def test_region_of_unknown_places(self):
        for place in ("", "g", "u", "al"):
            self.fails(Unknown("place", place), region_of, sample_world(), place)
        self.same(region_of(place="e", world=sample_world()), ("d", "e"))

    def test_worlds_side_by_side(self):
        for one, other in zip(some_worlds(20, seed=35), some_worlds(20, seed=36)):
            other = rename_world(
                other,
                places=[(place, "a" + place) for place in places_of(other)],
                ways=[(way, "a" + way) for way in ways_of(other)],
                walkers=[(name, "a" + name) for name in names_of(other)],
            )
            joint = beside(one, other)
            self.same(dues(joint), dues(other) + dues(one))
            for call in (reach, regions, live_ways, still_ways):
                self.same(call(joint), tuple(sorted(call(one) + call(other))))


class Kept(Case):
    def test_each_history_keeps(self):
        for k, world in enumerate(some_worlds(60, seed=37)):
            end = replay(world, wander(world, 12, k))
            self.same(broken(world, end), ())
            self.same((dues(end), reach(end), regions(end)), (dues(world), reach(world), regions(world)))
            self.same(live_ways(end), live_ways(world))
            for way in still_ways(world):
                self.same(head_of(end, way), head_of(world, way))

    def test_each_word(self):
        world = two_ways(heads=[("v", "a")], alike=[("a", 1)])
        self.same(broken(world, two_ways(heads=[("v", "a")], alike=[("a", 2)])), ("dues",))
        self.same(broken(world, two_ways(alike=[("b", 1)])), ("dues", "reach"))
        self.same(broken(world, two_ways(alike=[("a", 1)])), ("dues",))
        still = two_ways(heads=[("v", "a")])
        self.same(broken(still, two_ways(heads=[("u", "a")])), ("still",))
        self.same(broken(still, two_ways()), ("dues", "still"))
        self.same(broken(still, two_ways(heads=[("u", "a")], alike=[("a", 1)])), ("dues", "reach", "still"))
        self.same(broken(one=still, other=still), ())

    def test_the_first_world_tells_what_is_still(self):
        still = two_ways(heads=[("v", "a")])
        live = two_ways(heads=[("u", "a")], alike=[("a", 1)])
        self.same(broken(live, still), ("dues", "reach"))

    def test_regions_word(self):
        web = make_web(["a", "b", "c", "d"], [("u", "a", "b"), ("v", "c", "d")])
        one = make_world(web, alike=[("a", 1), ("c", 1)], named=[("al", "a"), ("bo", "c")])
        other = make_world(web, alike=[("a", 1), ("c", 1)], named=[("bo", "a"), ("al", "c")])
        self.same(broken(one, other), ("regions",))
        self.same(broken(one, one), ())
        within = make_world(web, alike=[("a", 1), ("c", 1)], named=[("al", "b"), ("bo", "d")])
        self.same(broken(one, within), ("dues",))
        outside = make_world(web, named=[("al", "b"), ("bo", "b")])
        self.same(broken(outside, make_world(web, named=[("al", "a"), ("bo", "b")])), ("dues", "reach", "regions"))
        self.same(broken(one, make_world(web, heads=[("u", "a")], named=[("al", "d"), ("bo", "d")])),
                  ("dues", "reach", "regions"))

    def test_all_words(self):
        web = make_web(["a", "b", "c"], [("u", "a", "b"), ("v", "b", "c")])
        one = make_world(web, heads=[("v", "b")], named=[("al", "a")])
        other = make_world(web, named=[("al", "c")])
        self.same(broken(one, other), ("dues", "reach", "still", "regions"))

    def test_unlike(self):
        named = two_ways(named=[("al", "a")])
        self.fails(Unlike("names"), broken, named, two_ways())
        self.fails(Unlike("names"), broken, named, two_ways(named=[("bo", "a")]))
        self.fails(Unlike("web"), broken, named, sample_world())
        self.same(broken(named, two_ways(alike=[("a", 5)], named=[("al", "a")])), ("dues",))

    def test_as_the_words_are_told(self):
        pairs = zip(some_worlds(900, seed=38, places=3, ways=4), some_worlds(900, seed=39, places=3, ways=4))
        looked = 0
        for one, other in pairs:
            if places_of(one) != places_of(other) or names_of(one) != names_of(other):
                continue
            crowd = [(place, bag_at(other, place).alike) for place in places_of(one)]
            named = [(name, place_of(other, name)) for name in names_of(other)]
            heads = [(way, head_of(other, way)) for way in ways_of(one) if way in ways_of(other)]
            heads = [(way, place) for way, place in heads if place in (head_of(one, way), tail_of(one, way))]
            end = make_world(one[0], heads=heads, alike=crowd, named=named)
            wanted = []
            if [due(one, p) for p in places_of(one)] != [due(end, p) for p in places_of(one)]:
                wanted.append("dues")
            if reach(one) != reach(end):
                wanted.append("reach")
            if [way for way in differing(one, end) if way in still_ways(one)]:
                wanted.append("still")
            if [name for name in names_of(one) if place_of(end, name) not in region_of(one, place_of(one, name))]:
                wanted.append("regions")
            self.same(broken(one, end), tuple(wanted))
            looked += 1
        self.assertGreater(looked, 40)


def all_roads(world, origin, place):
    """All roads from the origin to the place, found by trying every order of every few ways."""
    found = [()] if origin == place else []
    for size in range(1, len(places_of(world))):
        for ways in permutations(ways_of(world), size):
            spots = [origin]
            for way in ways:
                if tail_of(world, way) == spots[-1]:
                    spots.append(head_of(world, way))
            if len(spots) == size + 1 and spots[-1] == place and len(set(spots)) == len(spots):
                found.append(ways)
    return found


class Roads(Case):
    def test_can_come(self):
        world = nobody(("u", "a", "b"), ("v", "b", "c"))
        wanted = {("a", "b"), ("a", "c"), ("b", "c")}
        for origin in "abcd":
            for place in "abcd":
                self.assertIs(can_come(world, origin, place), origin == place or (origin, place) in wanted)
        self.assertIs(can_come(place="c", origin="a", world=world), True)

    def test_fewest_ways_and_then_least_names(self):
        both = (("x", "a", "b"), ("b", "a", "b"))
        world = nobody(*both, ("a", "a", "c"), ("c", "c", "d"), ("d", "b", "d"), ("z", "a", "d"))
        self.same(road(world, "a", "d"), ("z",))
        self.same(road(world, "a", "b"), ("b",))
        self.same(road(world, "d", "a"), None)
        self.same(road(world, "d", "d"), ())
        world = nobody(*both, ("a", "a", "c"), ("y", "c", "d"), ("d", "b", "d"))
        self.same(road(world, "a", "d"), ("a", "y"))
        world = nobody(*both, ("e", "a", "c"), ("a", "c", "d"), ("d", "b", "d"), ("c", "b", "d"))
        self.same(road(world, "a", "d"), ("b", "c"))
        self.same(road(place="d", origin="a", world=world), ("b", "c"))

    def test_all_roads(self):
        for world in some_worlds(25, seed=40, places=4, ways=6):
            for origin in places_of(world):
                for place in places_of(world):
                    found = all_roads(world, origin, place)
                    wanted = min(found, key=lambda ways: (len(ways), ways)) if found else None
                    self.same(road(world, origin, place), wanted)
                    self.assertIs(can_come(world, origin, place), bool(found))

    def test_longest_road(self):
        spots = [f"p{k}" for k in range(10)]
        rows = [(f"w{k}", spots[k], spots[k + 1]) for k in range(9)]
        world = make_world(make_web(spots, rows))
        self.same(road(world, "p0", "p9"), tuple([row[0] for row in rows]))
        self.same(road(world, "p9", "p0"), None)

    def test_unknown(self):
        world = nobody(("u", "a", "b"))
        for call in (can_come, road):
            self.fails(Unknown("place", "zz"), call, world, "zz", "yy")
            self.fails(Unknown("place", "yy"), call, world, "a", "yy")
            self.fails(Unknown("place", "u"), call, world, "u", "a")
            self.fails(Unknown("place", ""), call, world, "", "")


class Shores(Case):
    def test_every_tuple_of_places(self):
        for world in some_worlds(30, seed=41):
            crowded = [place for place in places_of(world) if bag_at(world, place)]
            for places in subsets(places_of(world)):
                within = [way for way in ways_of(world) if tail_of(world, way) in places]
                out = [way for way in within if head_of(world, way) not in places]
                wanted = set(crowded) <= set(places) and not out
                self.assertIs(is_shore(world, places), wanted)
                if wanted:
                    self.assertLessEqual(set(reach(world)), set(places))
            self.assertIs(is_shore(world, reach(world)), True)
            self.assertIs(is_shore(world, ()), not crowded)

    def test_by_name(self):
        self.assertIs(is_shore(places=("a", "b"), world=two_ways()), True)

    def test_shapes(self):
        world = nobody(("u", "a", "b"))
        self.assertIs(is_shore(world, ("a", "b")), True)
        self.judges(lambda value: is_shore(world, value), [
            ["a", "b"], ("b", "a"), ("a", "a", "b"), ("a", "b", "b"), ("a", "b", "zz"), ("a", "b", None), "ab", None,
            True,
            0, 7, "", [], [()], ((),), (("a", "b"),), ("a", ["b"]), ("a", ("b",)), ("a", "b", 1), (True,), (0,), ("",),
            ("A", "a", "b"), ((((((),),),),),), ("u",), ("a",),
        ], False)
        values = [(), ("b",), ("c", "d"), ("b", "d"), ("a", "b", "c", "d")]
        self.judges(lambda value: is_shore(world, value), values, True)

    def test_places_with_walkers(self):
        world = two_ways(heads=[("u", "b"), ("v", "b")], named=[("al", "b")])
        self.judges(lambda value: is_shore(world, value), [("b",), ("a", "b")], True)
        self.judges(lambda value: is_shore(world, value), [(), ("a",)], False)
