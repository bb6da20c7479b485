"""Points 37 to 41, and 18: clusters, tables, and the fewest deeds."""

import random

from tests.support import ODD_VALUES, Case, apart, distances, every_world, largest_worlds, some_worlds, two_ways, wander
from turnbehind.errors import Named, Unlike
from turnbehind.histories import replay
from turnbehind.papers import comes_of
from turnbehind.tables import clusters, fewest, find_table, idle_clusters, is_table
from turnbehind.worlds import bag_at, beside, differing, head_of, make_web, make_world, tail_of, unnamed


def bare_worlds(count, **told):
    """So many worlds without names."""
    return [unnamed(world) for world in some_worlds(count, **told)]


def pairs_of_ways(many, others=(), links=(), heads=(), alike=()):
    """Two worlds with so many pairs of differing ways u, v between places; the pairs share no place."""
    spots = [f"p{k}" for k in range(2 * many)]
    rows = [(f"{word}{k}", spots[2 * k], spots[2 * k + 1]) for word in "uv" for k in range(many)]
    web = make_web([*spots, *others], [*rows, *links])
    start = [(f"u{k}", spots[2 * k]) for k in range(many)]
    end = [(f"v{k}", spots[2 * k]) for k in range(many)]
    return (make_world(web, heads=[*start, *heads], alike=alike), make_world(web, heads=[*end, *heads], alike=alike))


def some_comings(count, **told):
    """So many pairs of worlds without names, the second of which comes of the first."""
    return [(start, replay(start, wander(start, 50, seed=at))) for at, start in enumerate(bare_worlds(count, **told))]


def idle_cases(count):
    """So many pairs of worlds with idle clusters, the second of which comes of the first."""
    chance = random.Random(97)
    found = []
    while len(found) < count:
        many = chance.choice((1, 2, 3, 3, 3, 3, 3, 3))
        others = ["a", "b"]
        spots = [*others, *[f"p{k}" for k in range(2 * many)]]
        links = [(f"c{k}", *chance.sample(spots, 2)) for k in range(4 + many // 2)]
        heads = [(way, chance.choice(ends)) for way, *ends in links]
        case = pairs_of_ways(many, others, links, heads, [(chance.choice(others), 1)])
        if comes_of(*case) and idle_clusters(*case):
            found.append(case)
    return found


def far_cluster():
    """The two worlds of the document's example."""
    web = make_web(["a", "b", "c"], [("m", "a", "b"), ("u", "b", "c"), ("v", "b", "c")])
    told = {"alike": [("a", 1)]}
    return (make_world(web, heads=[("v", "b")], **told), make_world(web, heads=[("u", "b")], **told))


def four_idle():
    """Two worlds with four idle clusters, one of which comes of the other."""
    links = [("c0", "a", "p0"), ("c1", "a", "p2"), ("c2", "p1", "p4"), ("c3", "p3", "p4"), ("c4", "p5", "p6")]
    heads = [("c0", "p0"), ("c1", "p2"), ("c2", "p4"), ("c3", "p4"), ("c4", "p6")]
    return pairs_of_ways(4, ["a"], links, heads, [("a", 2)])


def breaks(start, end, rows):
    """The numbers of the conditions of point 40 that the rows break, word by word."""
    groups = idle_clusters(start, end)
    places = start[0][0]
    turned = differing(start, end)
    found = {1} if any(rows[0]) else set()
    for m in range(1, 2 ** len(groups)):
        number = dict(zip(places, rows[m]))
        for way, *_ in start[0][1]:
            more = 0 if way in turned else 1
            if number[tail_of(start, way)] > number[head_of(start, way)] + more:
                found.add(2)
        for i, group in enumerate(groups):
            ends = {end for way, *ends in start[0][1] if way in group for end in ends}
            if m // 2 ** i % 2 == 1:
                smaller = dict(zip(places, rows[m - 2 ** i]))
                if any(number[place] > smaller[place] for place in ends):
                    found.add(3)
        for a in range(1, m):
            b = m - a
            if a & b == 0 and any(whole > one + two for whole, one, two in zip(rows[m], rows[a], rows[b])):
                found.add(4)
        if any(bag_at(start, place) and rows[m][-1] > number[place] for place in places):
            found.add(5)
    return found


def greatest(start, end):
    """The rows of the greatest numbers: from 99 downward, each number falls by one as long as a condition is broken."""
    many = 2 ** len(idle_clusters(start, end))
    rows = [[0] * (len(start[0][0]) + 1)] + [[99] * (len(start[0][0]) + 1) for _ in range(many - 1)]
    changed = True
    while changed:
        changed = False
        for m in range(1, many):
            for at in range(len(rows[m])):
                top = limit(start, end, rows, m, at)
                if top < rows[m][at]:
                    rows[m][at] = top
                    changed = True
    return tuple(tuple(row) for row in rows)


def limit(start, end, rows, m, at):
    """The greatest number that the conditions and the other numbers allow in row m at this position."""
    groups = idle_clusters(start, end)
    places = start[0][0]
    found = [99] + [rows[a][at] + rows[m - a][at] for a in range(1, m) if a & (m - a) == 0]
    if at == len(places):
        return min(found + [rows[m][k] for k, place in enumerate(places) if bag_at(start, place)])
    turned = differing(start, end)
    for way, *ends in start[0][1]:
        if tail_of(start, way) == places[at]:
            found.append(rows[m][places.index(head_of(start, way))] + (0 if way in turned else 1))
        for i, group in enumerate(groups):
            if way in group and places[at] in ends and m // 2 ** i % 2 == 1:
                found.append(rows[m - 2 ** i][at])
    return min(found)


class Clusters(Case):
    def test_small(self):
        start, end = far_cluster()
        self.same(clusters(start, end), (("u", "v"),))
        self.same(idle_clusters(start, end), (("u", "v"),))
        self.same((clusters(start, start), idle_clusters(start, start)), ((), ()))
        near = make_world(start[0], heads=[("v", "b")], alike=[("c", 1)])
        later = make_world(start[0], heads=[("u", "b")], alike=[("c", 1)])
        self.same((clusters(near, later), idle_clusters(start=near, end=later)), ((("u", "v"),), ()))

    def test_order_and_links(self):
        web = make_web(
            ["a", "b", "c", "d", "e", "f", "g"],
            [("k", "f", "g"), ("l", "c", "d"), ("m", "a", "b"), ("n", "b", "c"), ("o", "d", "e"), ("p", "f", "g")],
        )
        start = make_world(web, alike=[("c", 1)])
        end = make_world(web, heads=[("k", "f"), ("l", "c"), ("m", "a"), ("o", "d")], alike=[("e", 3)])
        self.same(clusters(start=start, end=end), (("k",), ("l", "o"), ("m",)))
        self.same(idle_clusters(start, end), (("k",), ("m",)))
        self.same(idle_clusters(end, start), (("k",), ("m",)))
        other = make_world(web, heads=[("l", "c"), ("m", "a"), ("n", "b"), ("p", "f")])
        self.same(clusters(start, other), (("l", "m", "n"), ("p",)))
        self.same(idle_clusters(start, other), (("p",),))
        self.same(idle_clusters(other, start), (("l", "m", "n"), ("p",)))

    def test_as_links_tell(self):
        for start in bare_worlds(40, seed=91, places=7, ways=8):
            end = make_world(start[0], alike=[(start[0][0][0], 1)])
            turned = differing(start, end)
            ends = {way: {low, high} for way, low, high in start[0][1]}
            found = {way: {way} for way in turned}
            for one in list(turned) * 2:
                for other in turned:
                    if any(ends[way] & ends[other] for way in found[one]):
                        joint = found[one] | found[other]
                        found.update({way: joint for way in joint})
            groups = sorted({tuple(sorted(part)) for part in found.values()})
            self.same(clusters(start, end), tuple(groups))
            spots = {place for place in start[0][0] if bag_at(start, place)}
            idle = [group for group in groups if not any(ends[way] & spots for way in group)]
            self.same(idle_clusters(start, end), tuple(idle))

    def test_five_idle_where_it_does_not_come(self):
        start, end = pairs_of_ways(5)
        wanted = tuple((f"u{k}", f"v{k}") for k in range(5))
        self.same((clusters(start, end), idle_clusters(start, end)), (wanted, wanted))
        self.same((find_table(start, end), fewest(start, end)), (None, None))
        self.same(is_table(start, end, (wanted, ((0,) * 11,) * 32), 0), False)

    def test_errors(self):
        other = make_world(make_web(["a", "b"], []))
        named = two_ways(named=[("bo", "b"), ("al", "b")])
        for call in (clusters, idle_clusters, find_table, fewest):
            self.fails(Unlike("web"), call, named, other)
            self.fails(Unlike("names"), call, named, two_ways())
            self.fails(Unlike("names"), call, two_ways(), named)
            self.fails(Named(("al", "bo")), call, named, named)
            self.fails(Named(("al", "bo")), call, start=named, end=two_ways(named=[("al", "a"), ("bo", "a")]))
            self.fails(Named(("al", "bo")), call, named, two_ways(named=[("al", "b"), ("bo", "b")], alike=[("a", 1)]))


class Table(Case):
    def test_examples_of_the_document(self):
        start, end = far_cluster()
        self.same(find_table(start, end), ((("u", "v"),), ((0, 0, 0, 0), (1, 0, 0, 1))))
        self.same(fewest(start, end), 4)
        web = make_web(["a", "b", "c", "d"], start[0][1])
        start, end = [make_world(web, heads=[(way, "b")], alike=[("a", 1)]) for way in ("v", "u")]
        self.same(find_table(start, end), ((("u", "v"),), ((0, 0, 0, 0, 0), (1, 0, 0, 99, 1))))
        self.same(fewest(start=start, end=end), 4)

    def test_no_differing_way_and_no_idle_cluster(self):
        world = two_ways(alike=[("b", 1)])
        later = two_ways(heads=[("u", "a")], alike=[("a", 1)])
        self.same((find_table(world, world), fewest(world, world)), (((), ((0, 0, 0),)), 0))
        self.same(find_table(world, later), None)
        start, end = two_ways(heads=[("u", "a")], alike=[("a", 1)]), two_ways(heads=[("v", "a")], alike=[("a", 1)])
        self.same((find_table(start=start, end=end), fewest(start, end)), (((), ((0, 0, 0),)), 2))
        self.same(find_table(two_ways(), two_ways()), ((), ((0, 0, 0),)))

    def test_four_idle_clusters(self):
        start, end = four_idle()
        groups, rows = find_table(start, end)
        self.same(groups, tuple((f"u{k}", f"v{k}") for k in range(4)))
        self.same(len(rows), 16)
        self.same(rows, greatest(start, end))
        # c0 and c1 lead to the first two pairs, c2 or c3 to the third one, c4 to the last.
        self.same(rows[-1][-1], 4)
        self.same(fewest(start, end), 16)

    def test_the_greatest_numbers(self):
        for start, end in [*idle_cases(60), *some_comings(10, seed=92, places=8, ways=11), far_cluster(), four_idle()]:
            table = find_table(start, end)
            self.same(table, (idle_clusters(start, end), greatest(start, end)))
            self.same(fewest(start, end), len(differing(start, end)) + 2 * table[1][-1][-1])

    def test_fewest_deeds(self):
        for world in bare_worlds(80, seed=93, places=6, ways=7, walkers=2):
            for end, least in distances(world).items():
                self.same(fewest(world, end), least)

    def test_fewest_deeds_with_several_idle_clusters(self):
        cases = idle_cases(60)
        self.same(sorted({len(idle_clusters(*case)) for case in cases}), [1, 2, 3])
        for start, end in cases:
            self.same(fewest(start, end), distances(start)[end])

    def test_none_exactly_if_it_does_not_come(self):
        web = make_web(["a", "b", "c"], [("u", "a", "b"), ("v", "b", "c"), ("w", "a", "b")])
        worlds = every_world(web, 1)
        for start in worlds:
            for end in worlds:
                found = (find_table(start, end), fewest(start, end))
                self.same((found[0] is None, found[1] is None), (not comes_of(start, end),) * 2)

    def test_beside(self):
        cases = some_comings(40, seed=94, places=4, ways=5)
        for (start, end), (start2, end2) in zip(cases, cases[1:]):
            total = fewest(start, end) + fewest(start2, end2)
            self.same(fewest(beside(start, apart(start2)), beside(end, apart(end2))), total)

    def test_largest_worlds(self):
        for at, start in enumerate(largest_worlds(20, seed=95, named=0)):
            end = replay(start, wander(start, 300, seed=at))
            self.same(is_table(start, end, find_table(start, end), fewest(start, end)), True)


class Judged(Case):
    def test_found_tables_and_their_worth(self):
        for start, end in (far_cluster(), four_idle(), (two_ways(),) * 2):
            table = find_table(start, end)
            least = fewest(start, end)
            for number in (least, least - 1, 0, -5):
                self.same(is_table(start, end, table, number), True)
            self.same(is_table(start, end, table, least + 1), False)
            self.same(is_table(number=10 ** 19, table=table, end=end, start=start), False)

    def test_one_above_and_one_below(self):
        many = 0
        for start, end in [far_cluster(), four_idle(), *idle_cases(20)]:
            groups, rows = find_table(start, end)
            for m, row in enumerate(rows):
                for at, number in enumerate(row):
                    for other in (number - 1, number + 1, 0, 99):
                        value = rows[:m] + (row[:at] + (other,) + row[at + 1:],) + rows[m + 1:]
                        right = 0 <= other <= 99 and breaks(start, end, value) == set()
                        self.same(is_table(start, end, (groups, value), -1), right)
                        many += right
        self.assertGreater(many, 100)

    def test_each_condition_alone(self):
        web = make_web(["a", "b", "c", "d", "e"], [
            ("m", "a", "b"), ("n", "a", "d"), ("u", "b", "c"), ("v", "b", "c"), ("x", "d", "e"), ("y", "d", "e"),
        ])
        heads = [("m", "b"), ("n", "d")]
        start = make_world(web, heads=[("u", "b"), ("x", "d"), *heads], alike=[("a", 1)])
        end = make_world(web, heads=[("v", "b"), ("y", "d"), *heads], alike=[("a", 1)])
        groups, rows = find_table(start, end)
        self.same(rows, ((0,) * 6, (1, 0, 0, 99, 99, 1), (1, 99, 99, 0, 0, 1), (2, 99, 99, 99, 99, 2)))
        self.same(is_table(start, end, (groups, rows), 8), True)
        zero = (0,) * 6
        wrong = [
            ((1, 0, 0, 0, 0, 0), zero, zero, zero),
            ((0, 0, 0, 0, 0, 1), zero, zero, zero),
            (zero, (2, 0, 0, 99, 99, 1), zero, zero),
            (zero, (1, 0, 0, 1, 0, 1), zero, zero),
            (zero, (1, 1, 1, 99, 99, 1), zero, zero),
            (zero, rows[1], (0, 99, 99, 0, 0, 0), (2, 99, 99, 99, 99, 1)),
            (zero, rows[1], (1, 99, 99, 0, 0, 0), (2, 99, 99, 99, 99, 2)),
            (zero, (1, 0, 0, 99, 99, 2), zero, zero),
        ]
        for value, condition in zip(wrong, (1, 1, 2, 2, 3, 4, 4, 5)):
            self.assertEqual(breaks(start, end, value), {condition})
            self.same(is_table(start, end, (groups, value), 0), False)

    def test_walkers_at_several_places(self):
        web = make_web(["a", "b", "c", "d"], [("l", "a", "b"), ("m", "b", "c"), ("u", "c", "d"), ("v", "c", "d")])
        start, end = [make_world(web, heads=[(way, "c")], alike=[("a", 1), ("b", 2)]) for way in "vu"]
        groups, rows = find_table(start, end)
        self.same(rows[1], (2, 1, 0, 0, 1))
        for last, wanted in (((2, 1, 0, 0, 1), True), ((2, 1, 0, 0, 2), False), ((0, 1, 0, 0, 1), False)):
            self.same(is_table(start, end, (groups, (rows[0], last)), 0), wanted)

    def test_other_values(self):
        start, end = far_cluster()
        groups, rows = find_table(start, end)
        last = rows[1]
        values = [
            *ODD_VALUES, [groups, rows], (groups,), (groups, rows, ()), (rows, groups), (groups, list(rows)),
            (list(groups), rows), ((["u", "v"],), rows), ((("v", "u"),), rows), ((), rows), ((), rows[:1]),
            ((("u", "v"), ("u", "v")), rows), ((("u", "v"),) * 2, rows * 2), (groups, rows[:1]), (groups, rows + rows),
            (groups, ()), (groups, None), (None, rows), (groups, (rows[0], None)), (groups, (rows[0], list(last))),
            (groups, (list(rows[0]), last)), (groups, (rows[0], last[:3])), (groups, (rows[0], last + (0,))),
            (groups, (rows[0][:3], last)), (groups, (rows[0] + (0,), last)), (groups, (rows[0], (True, 0, 0, 1))),
            (groups, (rows[0], (1, False, 0, 1))), (groups, ((False, 0, 0, 0), last)),
            (groups, (rows[0], (1, 0, 0, "1"))), (groups, (rows[0], (1, 0, 0, None))),
            (groups, (rows[0], (1, 0, 0, -1))), (groups, (rows[0], (-1, 0, 0, 1))),
            (groups, (rows[0], (1, 0, 0, (1,)))), (groups, (rows[0], (100, 0, 0, 1))), ((("u",),), rows),
            ((("u", "zz"),), rows), (True, rows), (0, rows), ((("u", True),), rows), ("uv", rows),
        ]
        self.judges(lambda value: is_table(start, end, value, -100), values, False)
        self.same(is_table(start, end, (groups, (rows[0], (1, 0, 0, 0))), -100), True)

    def test_greatest_number(self):
        start, end = [make_world(make_web(["a", "b", "c", "d"], far_cluster()[0][0][1]), heads=[(way, "b")],
                                 alike=[("a", 1)]) for way in ("v", "u")]
        for number, wanted in ((99, True), (100, False), (98, True)):
            table = ((("u", "v"),), ((0, 0, 0, 0, 0), (1, 0, 0, number, 1)))
            self.same(is_table(start, end, table, 4), wanted)

    def test_table_without_idle_clusters(self):
        world = two_ways(alike=[("b", 1)])
        self.same(is_table(world, world, ((), ((0, 0, 0),)), 0), True)
        for value in (((), ()), ((), ((0, 0, 1),)), ((), ((0, 0, 0),) * 2), ((), ((0, 0),)), ((), [(0, 0, 0)])):
            self.same(is_table(world, world, value, 0), False)

    def test_world_that_does_not_come(self):
        start, end = two_ways(heads=[("v", "a")]), two_ways(heads=[("u", "a")])
        value = ((("u", "v"),), ((0, 0, 0), (0, 0, 0)))
        self.same(is_table(start, end, value, 0), False)
        self.same(is_table(start, end, ((), ((0, 0, 0),)), -1), False)

    def test_errors_whatever_the_value_is(self):
        other = make_world(make_web(["a", "b"], []))
        named = two_ways(named=[("bo", "b"), ("al", "b")])
        for value in (None, True, (), [], ((), ((0, 0, 0),)), "zz"):
            self.fails(Unlike("web"), is_table, named, other, value, 0)
            self.fails(Unlike("names"), is_table, two_ways(), named, value, 0)
            self.fails(Named(("al", "bo")), is_table, named, named, value, 0)
