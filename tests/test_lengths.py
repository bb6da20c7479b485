"""Points 37, 39 and 42: histories of the fewest deeds and of a given number of deeds."""

from tests.support import ODD_VALUES, Case, distances, largest_worlds, some_worlds, two_ways, wander
from turnbehind.deeds import go, moves
from turnbehind.errors import BadNumber, Named, TooLarge, Unlike
from turnbehind.histories import is_history, replay, turned
from turnbehind.lengths import can_in, count_in, find_in, find_shortest, is_shortest, spread
from turnbehind.reaches import live_ways
from turnbehind.tables import fewest
from turnbehind.worlds import differing, make_web, make_world, unnamed

ODD_NUMBERS = (None, True, False, "", "1", -1, -10 ** 19, 10 ** 19)


def bare_worlds(count, **told):
    """So many worlds without names."""
    return [unnamed(world) for world in some_worlds(count, **told)]


def sheaf(ways, here, there, turned_ways=0, names=()):
    """A world of two places with so many ways and walkers; the first ways point to a, the others to b."""
    rows = [(f"w{k}", "a", "b") for k in range(ways)]
    heads = [(f"w{k}", "a") for k in range(turned_ways)]
    return make_world(make_web(["a", "b"], rows), heads=heads, alike=[("a", here), ("b", there)],
                      named=[(name, "a") for name in names])


def counts_after(start, length):
    """A dict from each world to the number of histories of so many deeds, found by walking them all."""
    found = {}
    line = [start]
    for _ in range(length):
        line = [go(now, *deed) for now in line for deed in moves(now)]
    for end in line:
        found[end] = found.get(end, 0) + 1
    return found


def alone():
    """A world in which no deed is possible."""
    return make_world(make_web(["a", "b"], [("u", "a", "b"), ("v", "a", "b")]), alike=[("b", 1)])


class Shortest(Case):
    def test_example_of_the_document(self):
        start = two_ways(heads=[("v", "a")], alike=[("a", 1)])
        end = two_ways(heads=[("u", "a")], alike=[("a", 1)])
        found = (find_shortest(start, end), can_in(start, end, 3), can_in(start, end, 4))
        self.same(found, ((("u", None), ("v", None)), False, True))

    def test_every_world_of_small_classes(self):
        for world in bare_worlds(60, seed=101, places=6, ways=7, walkers=3):
            for end, least in distances(world).items():
                deeds = find_shortest(world, end)
                self.plain(deeds)
                self.same(len(deeds), least)
                self.same(is_history(world, deeds, end), True)
                self.same(is_shortest(world, deeds, end), True)
                self.same(turned(deeds), differing(world, end))
                self.same(find_shortest(world, end), deeds)

    def test_none_if_it_does_not_come(self):
        start, end = two_ways(heads=[("v", "a")]), two_ways(heads=[("u", "a")])
        self.same(find_shortest(start, end), None)
        self.same(find_shortest(end=two_ways(alike=[("a", 1)]), start=two_ways()), None)
        self.same(find_shortest(end, end), ())

    def test_largest_worlds(self):
        for at, start in enumerate(largest_worlds(20, seed=102, named=0)):
            end = replay(start, wander(start, 300, seed=at))
            deeds = find_shortest(start, end)
            self.same(is_shortest(start, deeds, end), True)
            self.same(len(deeds), fewest(start, end))

    def test_judged(self):
        start = sheaf(3, 1, 1)
        end = sheaf(3, 0, 2, 1)
        self.same(is_shortest(start, (("w0", None),), end), True)
        self.same(is_shortest(deeds=(), end=start, start=start), True)
        wrong = [
            (), (("w1", None),), (("w0", None), ("w1", None), ("w1", None)), (("w1", None), ("w1", None), ("w0", None)),
            [("w0", None)], (["w0", None],), (("w0", True),), (("w0",),), ("w0", None), (("zz", None),),
            (("w0", "zz"),),
        ]
        self.judges(lambda value: is_shortest(start, value, end), [*wrong, *ODD_VALUES], False)
        self.same(is_shortest(start, (("w0", None), ("w0", None)), start), False)
        self.same(is_shortest(start, (("w0", None), ("w0", None)) * 1500, start), False)

    def test_several_shortest_ones(self):
        start, end = sheaf(2, 2, 0), sheaf(2, 0, 2, 2)
        for deeds in ((("w0", None), ("w1", None)), (("w1", None), ("w0", None))):
            self.same(is_shortest(start, deeds, end), True)

    def test_world_that_does_not_come(self):
        start, end = two_ways(heads=[("v", "a")]), two_ways(heads=[("u", "a")])
        self.judges(lambda value: is_shortest(start, value, end), [*ODD_VALUES, ()], False)

    def test_errors(self):
        other = make_world(make_web(["a", "b"], []))
        named = two_ways(named=[("bo", "b"), ("al", "b")])
        for call in (find_shortest, lambda start, end: is_shortest(start, None, end),
                     lambda start, end: is_shortest(start, (), end), lambda start, end: is_shortest(start, [[]], end)):
            self.fails(Unlike("web"), call, named, other)
            self.fails(Unlike("names"), call, named, two_ways())
            self.fails(Unlike("names"), call, two_ways(), named)
            self.fails(Named(("al", "bo")), call, named, named)
            self.fails(Named(("al", "bo")), call, named, two_ways(named=[("al", "b"), ("bo", "b")], alike=[("a", 1)]))


class Length(Case):
    def test_as_counted(self):
        for world in bare_worlds(40, seed=103, places=4, ways=5, walkers=2):
            for length in range(6):
                found = counts_after(world, length)
                for end in distances(world):
                    self.same(can_in(world, end, length), end in found)
                    self.same(count_in(world, end, length), found.get(end, 0))
                    self.check_found(world, end, length)

    def check_found(self, start, end, length):
        """A history of this length is found exactly if there is one, and it is right."""
        deeds = find_in(start, end, length)
        if not can_in(start, end, length):
            self.same(deeds, None)
            return
        self.plain(deeds)
        self.same(len(deeds), length)
        self.same(is_history(start, deeds, end), True)
        self.same(find_in(start, end, length), deeds)

    def test_long_ones_of_either_parity(self):
        start, end = two_ways(heads=[("v", "a")], alike=[("a", 1)]), two_ways(heads=[("u", "a")], alike=[("a", 1)])
        for length in (0, 1, 2, 3, 12, 13, 99, 100):
            self.check_found(start, end, length)
            self.check_found(start, start, length)
            self.same(can_in(start, end, length), length % 2 == 0 and length > 0)
            self.same(can_in(end=start, length=length, start=start), length % 2 == 0)
        for length in (101, 999, 1000):
            self.same(can_in(start, end, length), length % 2 == 0)
        later = go(start, "u")
        for length in (0, 1, 2, 13, 99, 100):
            self.same(can_in(start, later, length), length % 2 == 1)
            self.check_found(start, later, length)
        self.same((can_in(start, later, 999), can_in(start, later, 1000)), (True, False))
        self.same(find_in(length=0, start=start, end=start), ())

    def test_where_no_deed_is_possible(self):
        world = alone()
        for length in (0, 1, 2, 12):
            self.same(can_in(world, world, length), length == 0)
            self.same(find_in(world, world, length), () if length == 0 else None)
            self.same(count_in(world, world, length), 1 if length == 0 else 0)
        self.same((can_in(world, world, 1000), find_in(world, world, 100)), (False, None))

    def test_world_that_does_not_come(self):
        start = two_ways(heads=[("v", "a")], alike=[("a", 1)])
        end = two_ways(heads=[("v", "a")], alike=[("b", 1)])
        for length in (0, 1, 2, 12):
            found = (can_in(start, end, length), find_in(start, end, length), count_in(start, end, length))
            self.same(found, (False, None, 0))

    def test_bounds_of_the_lengths(self):
        world = two_ways(heads=[("v", "a")], alike=[("a", 1)])
        named = two_ways(named=[("al", "a")])
        other = make_world(make_web(["a", "b"], []))
        for call, most in ((can_in, 1000), (find_in, 100), (count_in, 12)):
            call(world, world, 0)
            call(world, world, most)
            for number in (*ODD_NUMBERS, most + 1):
                self.fails(BadNumber(number), call, world, world, number)
                self.fails(BadNumber(number), call, named, other, number)
                self.fails(BadNumber(number), call, named, named, number)
                self.fails(BadNumber(number), call, sheaf(7, 1, 1), sheaf(7, 1, 1), number)
            self.fails(Unlike("web"), call, named, other, most)
            self.fails(Unlike("names"), call, sheaf(7, 1, 1, names=["al"]), sheaf(7, 1, 1), 1)
            self.fails(Named(("al",)), call, sheaf(7, 1, 1, names=["al"]), sheaf(7, 2, 1, names=["al"]), length=0)

    def test_many_histories(self):
        start = sheaf(6, 4, 4, 3)
        # Every way can always be walked: these are the closed walks of 12 steps on a cube of six dimensions.
        self.same(count_in(start, start, 12), 71172096)
        self.same(count_in(start, go(start, "w5"), 11), 71172096 // 6)
        self.same(count_in(end=start, length=11, start=start), 0)
        self.same(count_in(start, start, 0), 1)

    def test_numbers_of_histories_world_by_world(self):
        for world in bare_worlds(12, seed=104, places=4, ways=6, walkers=4):
            if len(live_ways(world)) > 6:
                continue
            counts = {world: 1}
            for length in range(1, 13):
                later = {}
                for now in counts:
                    for deed in moves(now):
                        after = go(now, *deed)
                        later[after] = later.get(after, 0) + counts[now]
                counts = later
                end = max(distances(world))
                self.same(count_in(world, end, length), counts.get(end, 0))

    def test_six_and_seven_live_ways(self):
        rows = [(f"w{k}", "a", "b") for k in range(6)] + [(f"x{k}", "b", "c") for k in range(8)]
        still = make_web(["a", "b", "c"], rows)
        world = make_world(still, heads=[(f"x{k}", "b") for k in range(8)], alike=[("a", 1)])
        self.same(len(live_ways(world)), 6)
        self.same((count_in(world, world, 2), sum(spread(world))), (6, len(distances(world))))
        more = make_world(still, heads=[(f"x{k}", "b") for k in range(7)], alike=[("a", 1)])
        self.same(len(live_ways(more)), 14)
        self.fails(TooLarge("live", 14), count_in, more, world, 1)
        self.same(count_in(world, more, 1), 0)
        self.fails(TooLarge("live", 7), count_in, sheaf(7, 1, 0), sheaf(7, 0, 0), 0)
        seven = sheaf(7, 1, 0)
        self.same((can_in(seven, seven, 2), len(find_in(seven, seven, 2))), (True, 2))


class Spread(Case):
    def test_as_distances_tell(self):
        for world in bare_worlds(60, seed=105, places=6, ways=6, walkers=3):
            found = list(distances(world).values())
            self.same(spread(world), tuple(found.count(least) for least in range(max(found) + 1)))

    def test_sixty_four_worlds(self):
        self.same(spread(sheaf(6, 4, 4, 3)), (1, 6, 15, 20, 15, 6, 1))
        self.same(spread(start=alone()), (1,))
        self.same(spread(two_ways()), (1,))

    def test_errors(self):
        self.fails(Named(("al", "bo")), spread, sheaf(7, 1, 0, names=["bo", "al"]))
        self.fails(Named(("al",)), spread, start=sheaf(1, 1, 0, names=["al"]))
        self.fails(TooLarge("live", 7), spread, sheaf(7, 1, 0))
        self.fails(TooLarge("live", 14), spread, sheaf(14, 8, 0))
        self.same(spread(sheaf(7, 0, 1)), (1,))
