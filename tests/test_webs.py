"""Points 4, 8, 9, 11, 12: make_web and make_world."""

from tests.support import Case
from turnbehind.errors import BadEnd, BadName, BadNumber, BadSize, Repeated, Unknown
from turnbehind.worlds import make_web, make_world

NO_NAMES = [None, True, False, 0, 12, "", "A", "9a", "abcdefghi", "a b", "a-", " a"]
NO_NUMBERS = [None, True, False, "", "1", -1, 9, 10 ** 19, -10 ** 19]


def ring(places, ways):
    """A web with so many places and ways."""
    spots = [f"p{k}" for k in range(places)]
    rows = [(f"w{k:02d}", spots[k % places], spots[(k + 1) % places]) for k in range(ways)]
    return make_web(spots, rows)


class MakeWeb(Case):
    def test_example(self):
        web = make_web(["b", "a"], [("v", "a", "b"), ("u", "b", "a")])
        self.same(web, (("a", "b"), (("u", "a", "b"), ("v", "a", "b"))))

    def test_order_of_places_ways_and_ends(self):
        web = make_web(("c", "a", "b"), [["w2", "c", "a"], ("w10", "b", "a"), ("a", "c", "b")])
        self.same(web, (("a", "b", "c"), (("a", "b", "c"), ("w10", "a", "b"), ("w2", "a", "c"))))

    def test_lists_and_tuples_are_equal_arguments(self):
        one = make_web(["b", "a"], [["v", "a", "b"]])
        self.same(make_web(("b", "a"), (("v", "a", "b"),)), one)
        self.same(make_web(ways=[("v", "a", "b")], places=["a", "b"]), one)

    def test_same_name_for_place_and_way(self):
        self.same(make_web(["a", "b"], [("a", "a", "b")]), (("a", "b"), (("a", "a", "b"),)))

    def test_smallest_and_largest(self):
        self.same(make_web(["a", "b"], []), (("a", "b"), ()))
        self.assertEqual([len(part) for part in ring(10, 14)], [10, 14])
        self.assertEqual([len(part) for part in ring(2, 14)], [2, 14])

    def test_arguments_stay_and_are_not_shared(self):
        places, ways = ["b", "a"], [["v", "b", "a"]]
        web = make_web(places, ways)
        self.same((places, ways), (["b", "a"], [["v", "b", "a"]]))
        places.append("c")
        ways[0][1] = "c"
        self.same(web, (("a", "b"), (("v", "a", "b"),)))

    def test_bad_names(self):
        for name in NO_NAMES:
            self.fails(BadName(name), make_web, ["a", name, "b"], [])
            self.fails(BadName(name), make_web, ["a", "b"], [("u", "a", "b"), (name, "a", "b"), (None, "a", "b")])
        self.fails(BadName("X"), make_web, ["a", "X", "Y"], [("Z", "a", "b")])
        self.fails(BadName("Z"), make_web, ["a"], [("u", "X", "X"), ("Z", "a", "b")])

    def test_sizes(self):
        for count in (0, 1, 11, 12):
            self.fails(BadSize("places", count), make_web, [f"p{k}" for k in range(count)], [])
        for count in (15, 20):
            rows = [(f"w{k}", "a", "b") for k in range(count)]
            self.fails(BadSize("ways", count), make_web, ["a", "b"], rows)
            self.fails(BadSize("places", 1), make_web, ["a"], rows)

    def test_sizes_count_repeated_items(self):
        self.fails(BadSize("places", 11), make_web, ["a", "b"] * 5 + ["a"], [])
        self.fails(Repeated("a"), make_web, ["a", "a"], [])
        self.fails(BadSize("ways", 15), make_web, ["a", "b"], [("u", "a", "b")] * 15)

    def test_repeated(self):
        self.fails(Repeated("b"), make_web, ["c", "b", "a", "b", "c"], [])
        self.fails(Repeated("v"), make_web, ["a", "b"], [(way, "a", "b") for way in "wvuvw"])
        self.fails(Repeated("a"), make_web, ["a", "a", "b"], [("u", "a", "b"), ("u", "a", "b")])
        self.fails(Repeated("u"), make_web, ["a", "b"], [("u", "a", "z"), ("u", "a", "b")])

    def test_unknown(self):
        self.fails(Unknown("place", "z"), make_web, ["a", "b"], [("u", "a", "b"), ("v", "z", "y")])
        self.fails(Unknown("place", "y"), make_web, ["a", "b"], [("u", "a", "y"), ("v", "z", "b")])
        self.fails(Unknown("place", ""), make_web, ["a", "b"], [("u", "a", "a"), ("v", "", "b")])
        self.fails(Unknown("place", "X Y"), make_web, ["a", "b"], [("u", "X Y", "X Y")])

    def test_bad_end(self):
        self.fails(BadEnd("v", "b"), make_web, ["a", "b"], [("u", "a", "b"), ("v", "b", "b"), ("w", "a", "a")])

    def test_order_of_classes(self):
        bad_end = [("u", "a", "a")]
        unknown = [*bad_end, ("v", "a", "z")]
        repeated = [*unknown, ("u", "a", "b")]
        self.fails(BadEnd("u", "a"), make_web, ["a", "b"], bad_end)
        self.fails(Unknown("place", "z"), make_web, ["a", "b"], unknown)
        self.fails(Repeated("u"), make_web, ["a", "b"], repeated)
        self.fails(Repeated("b"), make_web, ["a", "b", "b"], repeated)
        self.fails(BadSize("ways", 15), make_web, ["a", "b", "b"], repeated * 5)
        self.fails(BadSize("places", 1), make_web, ["a"], repeated * 5)
        self.fails(BadName(""), make_web, ["a"], [*repeated * 5, ("", "a", "b")])
        self.fails(BadName(7), make_web, [7], [*repeated * 5, ("", "a", "b")])


class MakeWorld(Case):
    def setUp(self):
        self.web = make_web(["a", "b", "c"], [("u", "a", "b"), ("v", "a", "b"), ("w", "b", "c")])

    def test_example(self):
        web = make_web(["b", "a"], [("v", "a", "b"), ("u", "b", "a")])
        world = make_world(web, heads=[("v", "a")], alike=[("a", 1)])
        wanted = ((("a", "b"), (("u", "a", "b"), ("v", "a", "b"))), ("b", "a"), ((1, ()), (0, ())))
        self.same(world, wanted)

    def test_defaults(self):
        self.same(make_world(self.web), (self.web, ("b", "b", "c"), ((0, ()), (0, ()), (0, ()))))

    def test_all_parts(self):
        world = make_world(
            self.web,
            heads=[("w", "b"), ["u", "a"]],
            alike=[["c", 2], ("a", 0)],
            named=[("bo", "c"), ("cy", "a"), ["al", "c"]],
        )
        self.same(world, (self.web, ("a", "b", "b"), ((0, ("cy",)), (0, ()), (2, ("al", "bo")))))
        again = make_world(
            web=self.web,
            named=(("al", "c"), ("cy", "a"), ("bo", "c")),
            alike=(("c", 2),),
            heads=(("v", "b"), ("u", "a"), ("w", "b")),
        )
        self.same(again, world)

    def test_parts_only_by_name(self):
        with self.assertRaises(TypeError):
            make_world(self.web, [])

    def test_equal_web_put_together_elsewhere(self):
        web = (("a", "b"), (("u", "a", "b"),))
        self.same(make_world(web, heads=[("u", "a")]), (web, ("a",), ((0, ()), (0, ()))))

    def test_walker_may_have_the_name_of_a_place_or_way(self):
        self.same(make_world(self.web, named=[("a", "a"), ("u", "b")])[2], ((0, ("a",)), (0, ("u",)), (0, ())))

    def test_eight_walkers(self):
        self.same(make_world(self.web, alike=[("b", 8)])[2], ((0, ()), (8, ()), (0, ())))
        named = [(f"n{k}", "c") for k in range(8)]
        self.same(make_world(self.web, named=named)[2][2], (0, tuple([f"n{k}" for k in range(8)])))
        self.same(make_world(self.web, alike=[("a", 3), ("b", 2)], named=named[:3])[2][2][1], ("n0", "n1", "n2"))

    def test_arguments_stay_and_are_not_shared(self):
        heads, alike, named = [["u", "a"]], [["a", 1]], [["bo", "b"], ["al", "b"]]
        world = make_world(self.web, heads=heads, alike=alike, named=named)
        self.same((heads, alike, named), ([["u", "a"]], [["a", 1]], [["bo", "b"], ["al", "b"]]))
        before = repr(world)
        heads[0][1], alike[0][1], named[0][0] = "b", 5, "zz"
        self.assertEqual(repr(world), before)
        self.plain(world)

    def test_bad_names(self):
        for name in NO_NAMES:
            self.fails(BadName(name), make_world, self.web, named=[("al", "a"), (name, "zz"), (None, "a")])

    def test_bad_numbers(self):
        for number in NO_NUMBERS:
            self.fails(BadNumber(number), make_world, self.web, alike=[("a", 1), ("zz", number), ("b", 77)])
        for number in range(9):
            self.same(make_world(self.web, alike=[("b", number)])[2][1][0], number)

    def test_too_many_walkers(self):
        self.fails(BadSize("walkers", 9), make_world, self.web, alike=[("a", 8), ("b", 1)])
        self.fails(BadSize("walkers", 9), make_world, self.web, named=[(f"n{k}", "a") for k in range(9)])
        self.fails(BadSize("walkers", 10), make_world, self.web, alike=[("a", 8)], named=[("al", "a"), ("bo", "a")])
        self.fails(BadSize("walkers", 16), make_world, self.web, alike=[("a", 8), ("a", 8)])
        self.fails(BadSize("walkers", 9), make_world, self.web, named=[("al", "a")] * 9)

    def test_repeated(self):
        pairs = [("w", "b"), ("v", "a"), ("u", "a"), ("v", "b"), ("w", "b")]
        self.fails(Repeated("v"), make_world, self.web, heads=pairs)
        self.fails(Repeated("u"), make_world, self.web, heads=[("u", "a"), ("u", "a")])
        self.fails(Repeated("b"), make_world, self.web, alike=[("c", 1), ("b", 1), ("b", 2), ("c", 1)])
        self.fails(Repeated("a"), make_world, self.web, alike=[("a", 0), ("a", 0)])
        self.fails(Repeated("bo"), make_world, self.web, named=[("al", "a"), ("bo", "a"), ("bo", "b"), ("al", "a")])
        twice = {"heads": [("u", "a")] * 2, "alike": [("a", 0)] * 2, "named": [("al", "a")] * 2}
        self.fails(Repeated("u"), make_world, self.web, **twice)
        del twice["heads"]
        self.fails(Repeated("a"), make_world, self.web, **twice)
        self.fails(Repeated("zz"), make_world, self.web, heads=[("zz", "a"), ("zz", "b")])

    def test_unknown(self):
        self.fails(Unknown("way", "zz"), make_world, self.web, heads=[("u", "c"), ("zz", "yy")])
        self.fails(Unknown("place", "yy"), make_world, self.web, heads=[("u", "yy"), ("zz", "a")])
        self.fails(Unknown("place", ""), make_world, self.web, alike=[("", 0)])
        self.fails(Unknown("place", "zz"), make_world, self.web, named=[("al", "a"), ("bo", "zz")])
        wrong = {"heads": [("u", "xx")], "alike": [("yy", 1)], "named": [("al", "zz")]}
        self.fails(Unknown("place", "xx"), make_world, self.web, **wrong)
        del wrong["heads"]
        self.fails(Unknown("place", "yy"), make_world, self.web, **wrong)
        self.fails(Unknown("way", "a"), make_world, self.web, heads=[("a", "u")])

    def test_bad_end(self):
        self.fails(BadEnd("v", "c"), make_world, self.web, heads=[("u", "a"), ("v", "c"), ("w", "a")])

    def test_order_of_classes(self):
        told = {"heads": [("u", "c")]}
        self.fails(BadEnd("u", "c"), make_world, self.web, **told)
        told["named"] = [("al", "zz")]
        self.fails(Unknown("place", "zz"), make_world, self.web, **told)
        told["named"] = [("al", "zz"), ("al", "a")]
        self.fails(Repeated("al"), make_world, self.web, **told)
        told["alike"] = [("a", 8)]
        self.fails(BadSize("walkers", 10), make_world, self.web, **told)
        told["alike"] = [("a", 8), ("b", 9), ("c", "x")]
        self.fails(BadNumber(9), make_world, self.web, **told)
        told["named"] = [("al", "zz"), ("al", "a"), ("Al", "a")]
        self.fails(BadName("Al"), make_world, self.web, **told)
