"""Points 12 to 14 and 16 to 18: the judge of worlds, reading worlds, renaming, the mirror, worlds side by side."""

from tests.support import ODD_VALUES, Case, class_of, sample_world, some_worlds, two_ways
from turnbehind.bags import Bag
from turnbehind.errors import BadName, BadSize, Repeated, Unknown, Unlike
from turnbehind.worlds import (
    all_walkers, bag_at, beside, differing, head_of, is_world, make_web, make_world, mirror, names_of, place_of,
    rename_world, tail_of, unnamed,
)

WEB = (("a", "b"), (("u", "a", "b"), ("v", "a", "b")))
CROWD = ((1, ("al", "bo")), (0, ("cy",)))
PARTS = {"web": WEB, "heads": ("a", "b"), "crowd": CROWD}


def put(**parts):
    """A value with the shape of a world, with some parts replaced."""
    return tuple({**PARTS, **parts}.values())


def web_of(places, ways, heads, crowd):
    """A value with the shape of a world."""
    return ((places, ways), heads, crowd)


class IsWorld(Case):
    def test_worlds(self):
        values = [put(), two_ways(), sample_world(), put(crowd=((8, ()), (0, ()))), *some_worlds(50, seed=2)]
        self.judges(is_world, values, True)

    def test_bounds(self):
        spots = tuple([f"p{k}" for k in range(11)])
        rows = tuple([(f"w{k:02d}", "p0", "p1") for k in range(15)])
        nobody = ((0, ()),) * 11
        for places, ways in ((1, 0), (2, 0), (2, 14), (2, 15), (10, 14), (11, 0), (11, 14), (10, 15), (0, 0)):
            value = web_of(spots[:places], rows[:ways], ("p0",) * ways, nobody[:places])
            with self.subTest(places=places, ways=ways):
                self.assertIs(is_world(value), 2 <= places <= 10 and ways <= 14)

    def test_walkers_in_all(self):
        names = tuple([f"n{k}" for k in range(9)])
        sizes = ((8, 0, 0), (4, 4, 0), (9, 0, 0), (4, 5, 0), (0, 0, 8), (0, 0, 9), (7, 0, 1), (7, 1, 1))
        for one, other, named in sizes:
            value = put(crowd=((one, names[:named]), (other, ())))
            with self.subTest(value=value):
                self.assertIs(is_world(value), one + other + named <= 8)
        self.assertIs(is_world(put(crowd=((9, ()), (-1, ())))), False)
        self.assertIs(is_world(put(crowd=((10 ** 19, ()), (0, ())))), False)

    def test_wrong_crowds(self):
        self.judges(is_world, [put(crowd=crowd) for crowd in (
            (), ((0, ()),), ((0, ()), (0, ()), (0, ())), [(0, ()), (0, ())], ([0, ()], (0, ())), ((0, []), (0, ())),
            ((True, ()), (0, ())), ((None, ()), (0, ())), (("1", ()), (0, ())), ((-1, ()), (0, ())),
            ((0, ("bo", "al")), (0, ())), ((0, ("al", "al")), (0, ())), ((0, ("al",)), (0, ("al",))),
            ((0, ("Al",)), (0, ())), ((0, (None,)), (0, ())), ((0, ("al", 1)), (0, ())), ((0, "al"), (0, ())),
            ((0,), (0, ())), ((0, (), ()), (0, ())), (0, ()), None, 5, "ab", ((0, (["al"],)), (0, ())),
            ((0, (("al",),)), (0, ())), ((False, ()), (0, ())),
        )], False)

    def test_wrong_heads(self):
        self.judges(is_world, [put(heads=heads) for heads in (
            (), ("a",), ("a", "b", "a"), ["a", "b"], ("a", "c"), ("a", None), ("a", True), ("a", 0), "ab", None,
            ("a", ["b"]), ("a", ("b",)), ("a", ""),
        )], False)

    def test_wrong_webs(self):
        nobody = ((0, ()), (0, ()))
        places, ways = WEB
        self.judges(is_world, [(web, ("a", "b"), nobody) for web in (
            (), (places,), (places, ways, ()), [places, ways], (list(places), ways), (places, list(ways)),
            (("b", "a"), ways), (("a", "a"), ways), (("a", "B"), ways), ("ab", ways), (places, ways[::-1]),
            (places, (ways[0], ways[0])), (places, (ways[0], ("v", "b", "a"))), (places, (ways[0], ("v", "a", "a"))),
            (places, (ways[0], ("v", "a", "c"))), (places, (ways[0], ("V", "a", "b"))),
            (places, (ways[0], ["v", "a", "b"])), (places, (ways[0], ("v", "a"))),
            (places, (ways[0], ("v", "a", "b", "b"))),
            (places, (ways[0], (None, "a", "b"))), (places, (ways[0], ("v", None, "b"))),
            (places, (ways[0], ("v", "a", ["b"]))), (places, (ways[0], (("v",), "a", "b"))), (places, (ways[0], "vab")),
            (("a", 1), ways), (("a", ("b",)), ways), (("a", ["b"]), ways), (places, None), (None, ways), None, 3,
            (places, (("u", 0, 1), ways[1])), (places, (("u", True, "b"), ways[1])),
            (places, (ways[0], (["v"], "a", "b"))),
        )], False)

    def test_a_way_from_a_place_to_itself(self):
        value = web_of(("a", "b"), (("u", "a", "a"),), ("a",), ((0, ()), (0, ())))
        self.assertIs(is_world(value), False)

    def test_a_way_to_a_place_outside(self):
        value = web_of(("b", "c"), (("u", "a", "b"),), ("b",), ((0, ()), (0, ())))
        self.assertIs(is_world(value), False)

    def test_other_kinds(self):
        self.judges(is_world, [*ODD_VALUES, list(put()), put()[:2], (*put(), ()), (put(),), WEB, CROWD], False)

    def test_all_worlds_of_calls(self):
        for world in some_worlds(20, seed=5):
            values = [unnamed(world), mirror(world), rename_world(world, places=[("p0", "zz")])]
            self.judges(is_world, values, True)


class Read(Case):
    def setUp(self):
        self.world = sample_world()

    def test_names(self):
        self.same(names_of(self.world), ("al", "bo", "cy"))
        self.same(names_of(two_ways(alike=[("a", 3)])), ())

    def test_heads_and_tails(self):
        heads = [head_of(self.world, way) for way in "uvwxyz"]
        tails = [tail_of(self.world, way) for way in "uvwxyz"]
        self.same(heads, ["b", "a", "c", "e", "a", "d"])
        self.same(tails, ["a", "b", "b", "d", "f", "f"])
        for call in (head_of, tail_of):
            for way in ("", "a", "zz", "U", "al"):
                self.fails(Unknown("way", way), call, self.world, way)
        self.same(head_of(way="u", world=two_ways()), "b")
        self.same(tail_of(way="u", world=two_ways()), "a")

    def test_place_of(self):
        self.same([place_of(self.world, name) for name in ("al", "bo", "cy")], ["c", "a", "d"])
        for name in ("", "a", "u", "zz"):
            self.fails(Unknown("walker", name), place_of, self.world, name)
        self.same(place_of(name="al", world=self.world), "c")

    def test_bag_at(self):
        pairs = [bag_at(self.world, place).pair for place in "abcdef"]
        self.same(pairs, [(1, ("bo",)), (0, ()), (0, ("al",)), (1, ("cy",)), (0, ()), (0, ())])
        self.assertIs(type(bag_at(self.world, "a")), Bag)
        for place in ("", "g", "u", "al"):
            self.fails(Unknown("place", place), bag_at, self.world, place)
        self.same(bag_at(place="a", world=self.world).pair, (1, ("bo",)))

    def test_all_walkers(self):
        self.assertIs(type(all_walkers(self.world)), Bag)
        self.same(all_walkers(self.world).pair, (2, ("al", "bo", "cy")))
        self.same(all_walkers(two_ways()).pair, (0, ()))

    def test_unnamed(self):
        crowd = ((2, ()), (0, ()), (1, ()), (2, ()), (0, ()), (0, ()))
        self.same(unnamed(self.world), (self.world[0], self.world[1], crowd))
        self.same(unnamed(two_ways()), two_ways())


class Differing(Case):
    def test_ways(self):
        self.same(differing(two_ways(), two_ways()), ())
        self.same(differing(two_ways(heads=[("v", "a")]), two_ways()), ("v",))
        self.same(differing(two_ways(), two_ways(heads=[("v", "a"), ("u", "a")])), ("u", "v"))
        self.same(differing(other=two_ways(heads=[("u", "a")]), one=two_ways(alike=[("a", 4)])), ("u",))

    def test_walkers_do_not_count(self):
        one = two_ways(alike=[("a", 3)], named=[("al", "a")])
        other = two_ways(alike=[("b", 1)], named=[("al", "b")])
        self.same(differing(one, other), ())

    def test_unlike(self):
        named = two_ways(named=[("al", "a")])
        self.fails(Unlike("names"), differing, named, two_ways())
        self.fails(Unlike("names"), differing, two_ways(), named)
        self.fails(Unlike("names"), differing, named, two_ways(named=[("bo", "a")]))
        self.fails(Unlike("web"), differing, named, sample_world())
        for web in (
            make_web(["a", "b"], [("u", "a", "b")]), make_web(["a", "b", "c"], [("u", "a", "b"), ("v", "a", "b")]),
            make_web(["a", "b"], [("u", "a", "b"), ("w", "a", "b")]),
        ):
            self.fails(Unlike("web"), differing, named, make_world(web))
            self.fails(Unlike("web"), differing, make_world(web), named)


class Rename(Case):
    def test_ends_ways_and_places_in_their_order_anew(self):
        world = two_ways(heads=[("v", "a")], alike=[("a", 2)], named=[("al", "a"), ("bo", "b")])
        found = rename_world(world, places=[("a", "c")], ways=[("u", "z")], walkers=[("al", "dy")])
        wanted = ((("b", "c"), (("v", "b", "c"), ("z", "b", "c"))), ("c", "b"), ((0, ("bo",)), (2, ("dy",))))
        self.same(found, wanted)

    def test_names_of_one_place_in_order_anew(self):
        world = two_ways(named=[("al", "a"), ("bo", "a")])
        self.same(rename_world(world, walkers=[["al", "cy"]])[2], ((0, ("bo", "cy")), (0, ())))

    def test_swap(self):
        world = two_ways(heads=[("v", "a")], alike=[("a", 1)], named=[("al", "a"), ("bo", "b")])
        swapped = rename_world(world, places=(("a", "b"), ("b", "a")))
        self.same(swapped, (WEB, ("a", "b"), ((0, ("bo",)), (1, ("al",)))))
        self.same(rename_world(swapped, places=[("b", "a"), ("a", "b")]), world)
        self.same(rename_world(world, ways=[("u", "v"), ("v", "u")])[1], ("a", "b"))
        self.same(rename_world(world, walkers=[("al", "bo"), ("bo", "al")])[2], ((1, ("bo",)), (0, ("al",))))

    def test_nothing_and_equal_names(self):
        world = sample_world()
        self.same(rename_world(world), world)
        self.same(rename_world(world, places=[("a", "a")], ways=[("u", "u")], walkers=[("al", "al")]), world)
        self.same(rename_world(walkers=(), ways=[], world=world, places=()), world)
        with self.assertRaises(TypeError):
            rename_world(world, [])

    def test_there_and_back(self):
        for world in some_worlds(30, seed=9):
            one = [(place, f"q{9 - k}") for k, place in enumerate(world[0][0])]
            other = [(row[0], f"x{9 - k}") for k, row in enumerate(world[0][1])]
            third = [(name, f"y{9 - k}") for k, name in enumerate(names_of(world))]
            there = rename_world(world, places=one, ways=other, walkers=third)
            back = [[(new, old) for old, new in pairs] for pairs in (one, other, third)]
            self.same(rename_world(there, places=back[0], ways=back[1], walkers=back[2]), world)
            for way, new in other:
                self.same(head_of(there, new), dict(one)[head_of(world, way)])
            for name, new in third:
                self.same(place_of(there, new), dict(one)[place_of(world, name)])

    def test_bad_names(self):
        world = two_ways()
        for name in (None, True, False, 3, "", "A", "abcdefghi", "a b"):
            self.fails(BadName(name), rename_world, world, places=[("a", "c"), ("zz", name), ("b", None)])
            self.fails(BadName(name), rename_world, world, ways=[("zz", name)])
            self.fails(BadName(name), rename_world, world, walkers=[("zz", name)])
        self.fails(BadName("X"), rename_world, world, walkers=[("u", "Z")], ways=[("u", "Y")], places=[("a", "X")])
        self.fails(BadName("Y"), rename_world, world, walkers=[("u", "Z")], ways=[("u", "Y")])

    def test_repeated_old_name(self):
        world = two_ways()
        pairs = [("b", "c"), ("a", "d"), ("a", "e"), ("b", "c")]
        self.fails(Repeated("a"), rename_world, world, places=pairs)
        self.fails(Repeated("a"), rename_world, world, places=[("a", "c"), ("a", "c")])
        self.fails(Repeated("zz"), rename_world, world, places=[("zz", "c"), ("zz", "d")])
        self.fails(Repeated("zz"), rename_world, world, ways=[("zz", "c"), ("zz", "d")])
        self.fails(Repeated("zz"), rename_world, world, walkers=[("zz", "c"), ("zz", "d")])

    def test_repeated_new_name(self):
        web = make_web(["a", "b", "c", "d"], [("u", "a", "b"), ("v", "a", "b"), ("w", "c", "d")])
        world = make_world(web, named=[("al", "a"), ("bo", "b"), ("cy", "b")])
        self.fails(Repeated("b"), rename_world, world, places=[("a", "b")])
        self.fails(Repeated("y"), rename_world, world, places=[("a", "z"), ("b", "z"), ("c", "y"), ("d", "y")])
        self.fails(Repeated("v"), rename_world, world, ways=[("w", "v")])
        self.fails(Repeated("bo"), rename_world, world, walkers=[("al", "bo"), ("cy", "bo")])
        self.fails(Repeated("v"), rename_world, world, walkers=[("al", "bo")], ways=[("w", "v")])
        self.fails(Repeated("b"), rename_world, world, walkers=[("al", "bo")], ways=[("w", "v")], places=[("a", "b")])

    def test_old_name_before_new_name_in_each_argument(self):
        world = two_ways()
        self.fails(Repeated("zz"), rename_world, world, places=[("a", "b"), ("zz", "c"), ("zz", "d")])
        self.fails(Repeated("b"), rename_world, world, places=[("a", "b")], ways=[("u", "x"), ("u", "y")])

    def test_pairs_of_unknown_names_count_for_nothing(self):
        world = two_ways()
        self.fails(Unknown("place", "zz"), rename_world, world, places=[("zz", "a")])
        self.fails(Unknown("place", "yy"), rename_world, world, places=[("yy", "q"), ("zz", "q")])
        self.fails(Unknown("way", "zz"), rename_world, world, ways=[("u", "w"), ("zz", "w")])

    def test_unknown(self):
        world = two_ways(named=[("al", "a")])
        self.fails(Unknown("place", "zz"), rename_world, world, places=[("a", "c"), ("zz", "d"), ("yy", "e")])
        self.fails(Unknown("way", "a"), rename_world, world, ways=[("a", "d")])
        self.fails(Unknown("walker", "u"), rename_world, world, walkers=[("al", "x"), ("u", "d")])
        pairs = [("zz", "x")]
        self.fails(Unknown("place", "zz"), rename_world, world, walkers=pairs, ways=pairs, places=pairs)
        self.fails(Unknown("way", "zz"), rename_world, world, walkers=pairs, ways=pairs)
        self.fails(Unknown("place", ""), rename_world, world, places=[("", "x")])

    def test_order_of_classes(self):
        world = two_ways(named=[("al", "a")])
        self.fails(Repeated("u"), rename_world, world, places=[("zz", "c")], ways=[("v", "u")])
        self.fails(BadName("U"), rename_world, world, places=[("a", "b")], walkers=[("zz", "U")])

    def test_arguments_stay(self):
        pairs = [["a", "c"]]
        found = rename_world(two_ways(), places=pairs)
        pairs[0][1] = "d"
        self.same(found[0][0], ("b", "c"))


class Mirror(Case):
    def test_each_way_turned(self):
        world = sample_world()
        self.same(mirror(world), (world[0], ("a", "b", "b", "d", "f", "f"), world[2]))

    def test_twice(self):
        for world in some_worlds(20, seed=4):
            self.same(mirror(mirror(world)), world)
            self.same(differing(world, mirror(world)), tuple([row[0] for row in world[0][1]]))


class Beside(Case):
    def test_parts_of_both(self):
        one = two_ways(heads=[("v", "a")], alike=[("a", 2)], named=[("bo", "b")])
        web = make_web(["aa", "c"], [("t", "aa", "c"), ("w", "aa", "c")])
        other = make_world(web, heads=[("w", "aa")], alike=[("c", 1)], named=[("al", "aa")])
        ways = (("t", "aa", "c"), ("u", "a", "b"), ("v", "a", "b"), ("w", "aa", "c"))
        crowd = ((2, ()), (0, ("al",)), (0, ("bo",)), (1, ()))
        wanted = ((("a", "aa", "b", "c"), ways), ("c", "b", "a", "aa"), crowd)
        self.same(beside(one, other), wanted)
        self.same(beside(other, one), wanted)
        self.same(beside(other=one, one=other), wanted)

    def joint(self, places, ways, alike, stem):
        """A world with so many places, ways and alike walkers, whose names begin with the stem."""
        spots = [f"{stem}{k}" for k in range(places)]
        web = make_web(spots, [(f"{stem}{k}", spots[0], spots[1]) for k in range(ways)])
        return make_world(web, alike=[(spots[0], alike)])

    def test_sizes(self):
        joint = self.joint
        self.assertIs(is_world(beside(joint(6, 7, 4, "a"), joint(4, 7, 4, "b"))), True)
        self.fails(BadSize("places", 11), beside, joint(6, 8, 5, "a"), joint(5, 8, 5, "b"))
        self.fails(BadSize("ways", 15), beside, joint(6, 8, 5, "a"), joint(4, 7, 4, "b"))
        self.fails(BadSize("walkers", 9), beside, joint(6, 7, 5, "a"), joint(4, 7, 4, "b"))
        self.fails(BadSize("places", 12), beside, joint(6, 7, 4, "a"), joint(6, 7, 4, "a"))
        self.fails(BadSize("ways", 16), beside, joint(2, 8, 5, "a"), joint(2, 8, 5, "a"))
        self.fails(BadSize("walkers", 10), beside, joint(2, 1, 5, "a"), joint(2, 1, 5, "a"))

    def test_repeated(self):
        one = two_ways(named=[("al", "a"), ("bo", "a")])
        self.fails(Repeated("a"), beside, one, one)
        other = rename_world(one, places=[("a", "c")])
        self.fails(Repeated("b"), beside, one, other)
        other = rename_world(one, places=[("a", "c"), ("b", "d")])
        self.fails(Repeated("u"), beside, one, other)
        other = rename_world(other, ways=[("u", "w")])
        self.fails(Repeated("v"), beside, one, other)
        other = rename_world(other, ways=[("v", "x")])
        self.fails(Repeated("al"), beside, one, other)
        other = rename_world(other, walkers=[("al", "v")])
        self.fails(Repeated("bo"), beside, one, other)
        other = rename_world(other, walkers=[("bo", "a")])
        self.same(names_of(beside(one, other)), ("a", "al", "bo", "v"))

    def test_the_least_common_one(self):
        one = make_world(make_web(["z", "m", "b"], [("n", "z", "m"), ("k", "m", "b")]))
        other = make_world(make_web(["m", "z", "a"], [("k", "m", "z"), ("n", "a", "m")]))
        self.fails(Repeated("m"), beside, one, other)
        other = rename_world(other, places=[("m", "x"), ("z", "y")])
        self.fails(Repeated("k"), beside, one, other)

    def test_class_of_the_joint_world(self):
        ones = some_worlds(12, seed=6, places=3, ways=3, walkers=2)
        others = some_worlds(12, seed=7, places=3, ways=3, walkers=2)
        for one, other in zip(ones, others):
            other = rename_world(
                other,
                places=[(place, "q" + place) for place in other[0][0]],
                ways=[(row[0], "q" + row[0]) for row in other[0][1]],
                walkers=[(name, "q" + name) for name in names_of(other)],
            )
            joint = beside(one, other)
            self.assertEqual(len(class_of(joint)), len(class_of(one)) * len(class_of(other)))
