"""Points 17 to 19: single deeds, and what they are in the mirror and side by side."""

from tests.support import Case, apart, class_of, distances, sample_world, some_worlds, two_ways
from turnbehind.deeds import can_go, go, moves
from turnbehind.errors import NoDeed, Unknown
from turnbehind.worlds import beside, head_of, make_web, make_world, names_of, place_of, tail_of


class Go(Case):
    def test_alike_walker(self):
        world = two_ways(heads=[("v", "a")], alike=[("a", 2), ("b", 1)])
        self.same(go(world, "u"), two_ways(heads=[("u", "a"), ("v", "a")], alike=[("a", 1), ("b", 2)]))
        self.same(go(world, "v", None), two_ways(alike=[("a", 3)]))

    def test_named_walker(self):
        world = two_ways(alike=[("a", 1)], named=[("al", "a"), ("cy", "b"), ("bo", "b")])
        wanted = two_ways(heads=[("u", "a")], alike=[("a", 1)], named=[("al", "b"), ("cy", "b"), ("bo", "b")])
        self.same(go(world, "u", "al"), wanted)
        self.same(go(world=world, way="u", walker="al"), wanted)
        self.same(go(wanted, "u", "bo")[2], ((1, ("bo",)), (0, ("al", "cy"))))

    def test_nothing_else_changes(self):
        for world in some_worlds(30, seed=11):
            before = repr(world)
            for way, walker in moves(world):
                after = go(world, way, walker)
                self.same(after[0], world[0])
                self.same((head_of(after, way), tail_of(after, way)), (tail_of(world, way), head_of(world, way)))
                self.assertEqual([head_of(after, row[0]) for row in world[0][1] if row[0] != way],
                                 [head_of(world, row[0]) for row in world[0][1] if row[0] != way])
                for name in names_of(world):
                    wanted = head_of(world, way) if name == walker else place_of(world, name)
                    self.same(place_of(after, name), wanted)
                self.assertEqual(sum(pair[0] for pair in after[2]), sum(pair[0] for pair in world[2]))
            self.assertEqual(repr(world), before)

    def test_refused(self):
        world = two_ways(alike=[("b", 1)], named=[("al", "a"), ("bo", "b")])
        self.fails(NoDeed(0, "u", "nobody"), go, world, "u")
        self.fails(NoDeed(0, "v", "nobody"), go, world, "v", None)
        self.fails(NoDeed(0, "v", "elsewhere"), go, world, "v", "bo")
        self.fails(NoDeed(0, "u", "nobody"), go, two_ways(), "u")
        self.fails(NoDeed(0, "u", "elsewhere"), go, two_ways(named=[("al", "b")]), "u", "al")

    def test_unknown(self):
        world = two_ways(alike=[("b", 1)], named=[("al", "a")])
        for call in (go, can_go):
            self.fails(Unknown("way", "zz"), call, world, "zz", "yy")
            self.fails(Unknown("way", ""), call, world, "")
            self.fails(Unknown("way", "al"), call, world, "al")
            self.fails(Unknown("walker", "yy"), call, world, "u", "yy")
            self.fails(Unknown("walker", ""), call, world, "u", "")
            self.fails(Unknown("walker", "a"), call, world, "u", "a")

    def test_taken_back_by_the_same_deed(self):
        for world in some_worlds(30, seed=12):
            for way, walker in moves(world):
                self.same(go(go(world, way, walker), way, walker), world)


class CanGo(Case):
    def test_cases(self):
        world = two_ways(heads=[("v", "a")], alike=[("a", 1)], named=[("al", "a"), ("bo", "b")])
        for way, walker, wanted in (
            ("u", None, True), ("v", None, False), ("u", "al", True), ("u", "bo", False), ("v", "al", False),
            ("v", "bo", True),
        ):
            self.assertIs(can_go(world, way, walker), wanted)
        self.assertIs(can_go(world, "u"), True)
        self.assertIs(can_go(way="v", world=world), False)


class Moves(Case):
    def test_order(self):
        world = two_ways(heads=[("v", "a")], alike=[("a", 2)], named=[("bo", "a"), ("al", "a"), ("cy", "b")])
        self.same(moves(world), [("u", None), ("u", "al"), ("u", "bo"), ("v", "cy")])
        self.same(moves(world=two_ways(alike=[("a", 2)])), [("u", None), ("v", None)])
        self.same(moves(sample_world()), [("u", None), ("u", "bo"), ("x", None), ("x", "cy")])

    def test_none(self):
        self.same(moves(two_ways()), [])
        self.same(moves(two_ways(alike=[("b", 8)])), [])
        self.same(moves(make_world(make_web(["a", "b"], []), alike=[("a", 8)])), [])

    def test_exactly_the_possible_deeds(self):
        for world in some_worlds(60, seed=13):
            walkers = [None, *names_of(world)]
            wanted = [(row[0], walker) for row in world[0][1] for walker in walkers if can_go(world, row[0], walker)]
            self.same(moves(world), wanted)

    def test_new_list(self):
        world = two_ways(alike=[("a", 1)])
        moves(world).append("more")
        self.same(moves(world), [("u", None), ("v", None)])


class SideBySide(Case):
    def test_possible_deeds_put_together(self):
        for one, other in zip(some_worlds(20, seed=14), some_worlds(20, seed=15)):
            other = apart(other)
            self.same(sorted(map(repr, moves(beside(one, other)))), sorted(map(repr, moves(one) + moves(other))))

    def test_fewest_deeds_are_the_sum(self):
        ones = some_worlds(15, seed=16, places=3, ways=3, walkers=2)
        others = some_worlds(15, seed=17, places=3, ways=3, walkers=2)
        for one, other in zip(ones, others):
            other = apart(other)
            joint = distances(beside(one, other))
            for after, far in distances(one).items():
                for later, further in distances(other).items():
                    self.same(joint[beside(after, later)], far + further)

    def test_what_does_not_come(self):
        one, other = two_ways(alike=[("a", 1)]), apart(two_ways(alike=[("a", 1)]))
        never = two_ways(alike=[("b", 1)])
        self.assertNotIn(never, class_of(one))
        found = class_of(beside(one, other))
        self.assertEqual(len(found), 9)
        for after in class_of(other):
            self.assertNotIn(beside(never, after), found)
        for after in class_of(one):
            self.assertNotIn(beside(after, apart(never)), found)
