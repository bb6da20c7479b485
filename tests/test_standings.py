"""Points 32 and 33: standings, and the exchanges that lead from one to another."""

from itertools import product

from tests.support import ODD_VALUES, Case, class_of, largest_worlds, sample_world, some_worlds, two_ways
from turnbehind.errors import BadSize, TooLarge, Unknown
from turnbehind.histories import is_history
from turnbehind.reaches import region_of
from turnbehind.standings import can_stand, count_standings, fewest_exchanges, find_exchanges, find_standing
from turnbehind.standings import is_exchanges, standing_of, standings, with_standing
from turnbehind.worlds import make_web, make_world, names_of, place_of, unnamed

WITH_TARGET = (can_stand, with_standing, find_standing, fewest_exchanges, find_exchanges)


def row_of_places(sizes, names):
    """A world of one region, so many walkers at each place; the names stand at the first places that have room."""
    spots = [f"p{k}" for k in range(len(sizes))]
    rows = [(f"w{k}", spots[k], spots[k + 1]) for k in range(len(sizes) - 1)]
    line = [spot for spot, size in zip(spots, sizes) for _ in range(size)]
    alike = line[len(names):]
    return make_world(
        make_web(spots, rows), alike=[(spot, alike.count(spot)) for spot in spots], named=list(zip(names, line)),
    )


def brought(world, exchanges):
    """The standing after the exchanges, each of which can be applied, step by step as point 33 tells; or None."""
    sizes = {place: pair[0] for place, pair in zip(world[0][0], unnamed(world)[2])}
    spots = {name: place_of(world, name) for name in names_of(world)}
    for name, place, other in exchanges:
        there = [walker for walker in spots if spots[walker] == place]
        if spots[name] == place or region_of(world, spots[name]) != region_of(world, place):
            return None
        if other is None and len(there) == sizes[place] or other is not None and other not in there:
            return None
        if other is not None:
            spots[other] = spots[name]
        spots[name] = place
    return tuple(spots.values())


def all_exchanges(world):
    """All exchanges of a name, a place and another name or None, possible or not."""
    names = names_of(world)
    return list(product(names, world[0][0], [*names, None]))


def distances(world):
    """A dict from each standing to the fewest exchanges, found by trying all."""
    found = {standing_of(world): 0}
    line = [world]
    for now in line:
        for exchange in all_exchanges(world):
            standing = brought(now, [exchange])
            if standing is not None and standing not in found:
                found[standing] = found[standing_of(now)] + 1
                line.append(with_standing(world, standing))
    return found


class Standing(Case):
    def test_of_a_world(self):
        self.same(standing_of(sample_world()), ("c", "a", "d"))
        self.same(standing_of(two_ways(named=[("bo", "a"), ("al", "b"), ("cy", "a")])), ("b", "a", "a"))
        self.same(standing_of(two_ways(alike=[("a", 3)])), ())
        self.same(standing_of(world=two_ways()), ())

    def test_sample(self):
        world = sample_world()
        self.same(can_stand(world, ("a", "a", "d")), True)
        self.same(can_stand(world, ["a", "a", "d"]), True)
        self.same(can_stand(world, ("b", "a", "d")), False)
        self.same(can_stand(world, ("c", "c", "d")), False)
        self.same(can_stand(world, ("d", "a", "d")), False)
        self.same(can_stand(target=("c", "a", "e"), world=world), False)
        self.same(count_standings(world), 3)
        self.same(standings(world), [("a", "a", "d"), ("a", "c", "d"), ("c", "a", "d")])
        web, heads, _ = world
        crowd = ((1, ("al",)), (0, ()), (0, ("bo",)), (1, ("cy",)), (0, ()), (0, ()))
        self.same(with_standing(world, ["a", "c", "d"]), (web, heads, crowd))
        self.same(with_standing(target=("c", "c", "d"), world=world), None)

    def test_as_histories_tell(self):
        for world in some_worlds(60, seed=61, places=4, ways=5, walkers=4):
            sizes = unnamed(world)[2]
            found = {standing_of(end): end for end in class_of(world)
                     if end[1] == world[1] and unnamed(end)[2] == sizes}
            self.same(standings(world), sorted(found))
            self.same(count_standings(world), len(found))
            for target in product(world[0][0], repeat=len(names_of(world))):
                self.same(can_stand(world, target), target in found)
                self.same(with_standing(world, list(target)), found.get(target))
                self.check_history(world, target)

    def check_history(self, world, target):
        """A history is found exactly if the standing is possible, and it is right."""
        deeds = find_standing(world, target)
        if not can_stand(world, target):
            self.same(deeds, None)
            return
        self.plain(deeds)
        self.assertIs(is_history(world, deeds, with_standing(world, target)), True)
        self.assertLessEqual(len(deeds), 3000)
        self.same(find_standing(world, list(target)), deeds)
        if target == standing_of(world):
            self.same(deeds, ())

    def test_new_lists_and_kept_arguments(self):
        world = sample_world()
        standings(world).append("more")
        self.same(len(standings(world)), 3)
        target = ["a", "c", "d"]
        for call in WITH_TARGET:
            call(world, target)
        is_exchanges(world, target, ())
        self.same((target, world), (["a", "c", "d"], sample_world()))

    def test_without_names(self):
        for world in (two_ways(), two_ways(alike=[("a", 8)])):
            self.same(can_stand(world, ()), True)
            self.same(with_standing(world, []), world)
            self.same(count_standings(world), 1)
            self.same(standings(world), [()])
            self.same(find_standing(world, ()), ())
            self.same(fewest_exchanges(world, []), (0, 0))
            self.same(find_exchanges(world, ()), ())

    def test_more_named_walkers_than_walkers(self):
        world = row_of_places([1, 2], ["al", "bo", "cy"])
        for call, wanted in zip(WITH_TARGET, (False, None, None, None, None)):
            self.same(call(world, ("p0", "p0", "p1")), wanted)
            self.same(call(world, ("p1", "p1", "p1")), wanted)
        self.same(standings(world), [("p0", "p1", "p1"), ("p1", "p0", "p1"), ("p1", "p1", "p0")])

    def test_two_hundred_standings(self):
        # No world of at most 8 walkers has 199 to 203 standings.
        web = make_web(
            ["a", "b", "c", "d", "e", "f", "g"],
            [("t", "a", "b"), ("u", "b", "c"), ("v", "d", "e"), ("w", "e", "f"), ("x", "f", "g")],
        )
        told = {"named": [("al", "a"), ("bo", "b"), ("cy", "d"), ("dy", "d"), ("ed", "e")]}
        fewer = make_world(web, alike=[("c", 1), ("f", 1), ("g", 1)], **told)
        self.same(count_standings(fewer), 198)
        self.same(len(standings(fewer)), 198)
        self.same(sorted(set(standings(fewer))), standings(fewer))
        self.same(fewest_exchanges(fewer, ("b", "a", "d", "e", "d")), (2, 2))
        more = row_of_places([2, 2, 2, 2], ["al", "bo", "cy", "dy"])
        self.same(count_standings(more), 204)
        self.fails(TooLarge("standings", 204), standings, more)
        self.same(fewest_exchanges(more, ("p1", "p1", "p0", "p0")), (2, 4))
        self.same(fewest_exchanges(more, ("p1", "p2", "p0", "p1")), (2, 3))

    def test_many_standings(self):
        world = row_of_places([1] * 8, [f"n{k}" for k in range(8)])
        self.same(count_standings(world), 40320)
        self.fails(TooLarge("standings", 40320), standings, world=world)
        one = row_of_places([4, 2, 2], [f"n{k}" for k in range(8)])
        self.same(count_standings(one), 420)

    def test_errors(self):
        world = sample_world()
        for call in WITH_TARGET:
            self.fails(BadSize("names", 0), call, world, ())
            self.fails(BadSize("names", 2), call, world, ["zz", "zz"])
            self.fails(BadSize("names", 4), call, world, ("a", "a", "d", "zz"))
            self.fails(Unknown("place", "zz"), call, world, ("c", "zz", "yy"))
            self.fails(Unknown("place", ""), call, world, ("e", "e", ""))
            self.fails(BadSize("names", 1), call, two_ways(), ["a"])

    def test_largest_worlds(self):
        for world in largest_worlds(12, seed=62):
            goals = standing_of(world)
            for _ in range(3):
                for name in names_of(world):
                    at = names_of(world).index(name)
                    tries = [goals[:at] + (place,) + goals[at + 1:] for place in reversed(world[0][0])]
                    goals = [goal for goal in tries if can_stand(world, goal)][0]
                self.check_history(world, goals)

    def test_long_way_round(self):
        spots = [f"p{k}" for k in range(10)]
        rows = [(f"w{k}", spots[k], spots[k + 1]) for k in range(9)]
        heads = [("w0", "p0"), *[(f"w{k}", spots[k + 1]) for k in range(1, 9)]]
        named = [(f"n{k}", "p1") for k in range(4)] + [(f"n{k}", "p2") for k in range(4, 8)]
        world = make_world(make_web(spots, rows), heads=heads, named=named)
        self.check_history(world, ("p2",) * 4 + ("p1",) * 4)
        self.check_history(world, ("p1", "p2") * 4)


class Exchanges(Case):
    def check(self, world, target, least):
        """The exchanges to this standing are right, and as few as told."""
        found = find_exchanges(world, target)
        if least is None:
            self.same((found, fewest_exchanges(world, target)), (None, None))
            return
        self.same(fewest_exchanges(world, target), (least, least))
        self.same(len(found), least)
        self.plain(found)
        self.same(brought(world, found), tuple(target))
        self.assertIs(is_exchanges(world, target, found), True)
        self.same(find_exchanges(world, list(target)), found)

    def test_fewest(self):
        for world in some_worlds(40, seed=63, places=4, ways=6, walkers=5):
            least = distances(world)
            self.assertLessEqual(len(least), 200)
            self.same(sorted(least), standings(world))
            for target in product(world[0][0], repeat=len(names_of(world))):
                self.check(world, target, least.get(target))

    def test_rings(self):
        world = row_of_places([1, 1, 1, 1, 1], ["al", "bo", "cy", "dy", "ed"])
        self.check(world, ("p1", "p2", "p0", "p3", "p4"), 2)
        self.check(world, ("p1", "p2", "p3", "p4", "p0"), 4)
        self.check(world, ("p1", "p2", "p0", "p4", "p3"), 3)
        self.check(row_of_places([1, 1, 1, 1], ["al", "bo", "cy"]), ("p1", "p2", "p3"), 3)
        self.check(row_of_places([2, 2], ["al", "bo", "cy", "dy"]), ("p1", "p1", "p0", "p0"), 2)

    def test_many_standings(self):
        names = [f"n{k}" for k in range(8)]
        world = row_of_places([1, 2, 2, 1, 2], names)
        targets = (
            ("p4", "p4", "p3", "p2", "p2", "p1", "p1", "p0"), ("p1", "p0", "p1", "p2", "p2", "p3", "p4", "p4"),
            standing_of(world), ("p0", "p1", "p1", "p2", "p2", "p4", "p3", "p4"),
            ("p1", "p1", "p2", "p2", "p3", "p4", "p4", "p0"), ("p1", "p2", "p1", "p2", "p3", "p0", "p4", "p4"),
        )
        for target, high in zip(targets, (6, 2, 0, 2, 5, 4)):
            found = find_exchanges(world, target)
            self.same(fewest_exchanges(world, target), ((high + 1) // 2, high))
            self.assertLessEqual(len(found), high)
            self.same(brought(world, found), target)
            self.same(is_exchanges(world, target, found), True)

    def test_many_standings_with_alike_walkers(self):
        world = row_of_places([2, 1, 2, 1, 2], ["al", "bo", "cy", "dy", "ed"])
        self.assertGreater(count_standings(world), 200)
        goals = [goal for goal in product(world[0][0], repeat=5) if can_stand(world, goal)]
        for target in goals[::7]:
            moved = len([spot for spot, goal in zip(standing_of(world), target) if spot != goal])
            found = find_exchanges(world, target)
            self.same(fewest_exchanges(world, target), ((moved + 1) // 2, moved))
            self.assertLessEqual(len(found), moved)
            self.same(brought(world, found), target)


class Judged(Case):
    def test_each_exchange(self):
        for world in [sample_world(), *some_worlds(30, seed=64, places=4, ways=5, walkers=4)]:
            for exchange in all_exchanges(world):
                after = brought(world, [exchange])
                for target in [standing_of(world), *standings(world)]:
                    self.same(is_exchanges(world, target, (exchange,)), after == target)

    def test_several_exchanges(self):
        world = row_of_places([1, 1, 2], ["al", "bo", "cy"])
        judged = [
            ((("al", "p1", "bo"),), True),
            ((("bo", "p0", "al"),), True),
            ((("al", "p2", None), ("al", "p1", "bo"), ("bo", "p0", None)), True),
            ((("al", "p1", "bo"), ("al", "p0", "bo"), ("al", "p1", "bo")), True),
            ((("al", "p1", "bo"), ("al", "p0", "bo")), False),
            ((("al", "p1", "bo"), ("al", "p1", "bo")), False),
            ((("al", "p1", None),), False),
            ((("al", "p1", "cy"),), False),
            ((("al", "p1", "al"),), False),
            ((("al", "p0", None), ("al", "p1", "bo")), False),
            ((("al", "p1", "bo"), ("al", "p1", "al")), False),
            ((), False),
        ]
        for value, wanted in judged:
            self.same(is_exchanges(world, ("p1", "p0", "p2"), value), wanted)
        self.same(is_exchanges(exchanges=(), target=["p0", "p1", "p2"], world=world), True)

    def test_long_value(self):
        world = row_of_places([1, 1], ["al", "bo"])
        there = ("al", "p1", "bo")
        back = ("al", "p0", "bo")
        self.same(is_exchanges(world, ("p0", "p1"), (there, back) * 1500), True)
        self.same(is_exchanges(world, ("p0", "p1"), (there, back) * 1499 + (there, there)), False)

    def test_other_values(self):
        world = row_of_places([1, 1, 2], ["al", "bo", "cy"])
        values = [
            *ODD_VALUES, ["al", "p1", "bo"], [("al", "p1", "bo")], (["al", "p1", "bo"],), ("al", "p1", "bo"),
            (("al", "p1"),), (("al", "p1", "bo", None),), (("al", "p1", ("bo",)),), (("al", ["p1"], "bo"),),
            ((["al"], "p1", "bo"),), (("zz", "p1", "bo"),), (("al", "zz", "bo"),), (("al", "p1", "zz"),),
            (("al", "p1", True),), (("al", True, "bo"),), ((True, "p1", "bo"),), ((None, "p1", "bo"),),
            (("al", None, "bo"),), (("al", "p1", 0),), (("al", "p1", "bo"), None),
        ]
        self.judges(lambda value: is_exchanges(world, ("p1", "p0", "p2"), value), values, False)

    def test_impossible_standing(self):
        world = row_of_places([1, 1, 2], ["al", "bo", "cy"])
        for value in [*ODD_VALUES, (), (("al", "p1", "bo"),), (("bo", "p0", "al"),)]:
            self.same(is_exchanges(world, ("p0", "p0", "p2"), value), False)

    def test_errors_whatever_the_value_is(self):
        for value in ((), None, True, [], (("cy", "d", None),), "zz"):
            self.fails(BadSize("names", 2), is_exchanges, sample_world(), ("zz", "a"), value)
            self.fails(Unknown("place", "zz"), is_exchanges, sample_world(), ["c", "zz", "yy"], value)
