"""Point 36: a history of a coming."""

from tests.support import Case, class_of, every_world, largest_worlds, sample_world, some_worlds, two_ways, wander
from turnbehind.comings import find_history
from turnbehind.deeds import moves
from turnbehind.errors import Unlike
from turnbehind.histories import is_history, replay, take_back
from turnbehind.papers import comes_of
from turnbehind.standings import with_standing
from turnbehind.worlds import make_web, make_world, unnamed


class History(Case):
    def check(self, start, end):
        """A right history is found, the same one at each call."""
        deeds = find_history(start, end)
        self.plain(deeds)
        self.assertIs(type(deeds), tuple)
        self.assertLessEqual(len(deeds), 3000)
        self.assertIs(is_history(start, deeds, end), True)
        self.same(find_history(start, end), deeds)
        if start == end:
            self.same(deeds, ())
        return deeds

    def test_every_world_of_small_classes(self):
        for world in some_worlds(50, seed=81, places=4, ways=6, walkers=4):
            found = class_of(world)
            for end in found[::len(found) // 30 + 1]:
                self.check(world, end)
                self.check(end, world)

    def test_none_if_it_does_not_come(self):
        web = make_web(["a", "b", "c"], [("u", "a", "b"), ("v", "b", "c"), ("w", "a", "b")])
        for alike, names in ((2, []), (0, ["al", "bo"])):
            worlds = every_world(web, alike, names)
            for start in worlds[::7]:
                for end in worlds[::3]:
                    if comes_of(start, end):
                        self.check(start, end)
                    else:
                        self.same(find_history(start, end), None)

    def test_equal_worlds(self):
        for world in (two_ways(), sample_world(), *largest_worlds(2, seed=82)):
            self.same(find_history(start=world, end=world), ())

    def test_start_that_comes_of_nothing_but_itself(self):
        alone = make_world(make_web(["a", "b"], [("u", "a", "b")]), alike=[("b", 2)])
        self.same(moves(alone), [])
        self.same(find_history(alone, alone), ())
        self.same(find_history(alone, make_world(alone[0], heads=[("u", "a")], alike=[("a", 1), ("b", 1)])), None)

    def test_ways_without_a_walker_near(self):
        web = make_web(["a", "b", "c", "d"], [("m", "a", "b"), ("n", "b", "c"), ("u", "c", "d"), ("v", "c", "d")])
        start = make_world(web, heads=[("v", "c")], named=[("al", "a")])
        end = make_world(web, heads=[("u", "c")], named=[("al", "a")])
        deeds = self.check(start, end)
        self.same(replay(end, take_back(deeds)), start)

    def test_largest_worlds(self):
        for at, start in enumerate(largest_worlds(40, seed=83)):
            end = replay(start, wander(start, 400, seed=at))
            self.check(start, end)
            self.check(end, start)

    def test_longest_exchanges(self):
        spots = [f"p{k}" for k in range(10)]
        rows = [(f"w{k}", spots[k], spots[k + 1]) for k in range(9)] + [(f"x{k}", "p0", "p1") for k in range(5)]
        heads = [(f"w{k}", spots[k + 1 - k % 2]) for k in range(9)]
        for stands in ("02468024", "02468888", "88864200", "02468000"):
            named = [(f"n{k}", f"p{at}") for k, at in enumerate(stands)]
            start = make_world(make_web(spots, rows), heads=heads, named=named)
            end = with_standing(start, [f"p{at}" for at in stands[::-1]])
            self.check(start, end)
            self.check(start, replay(end, wander(end, 200)))

    def test_named_walkers_do_not_matter_for_the_heads(self):
        for world in some_worlds(30, seed=84, walkers=3):
            end = replay(world, wander(world, 15))
            self.check(unnamed(world), unnamed(end))

    def test_unlike(self):
        other = make_world(make_web(["a", "b"], []))
        self.fails(Unlike("web"), find_history, two_ways(), other)
        self.fails(Unlike("web"), find_history, two_ways(named=[("al", "a")]), other)
        self.fails(Unlike("names"), find_history, end=two_ways(), start=two_ways(named=[("al", "a")]))
