"""Points 69 and 70: changes, the way back, and what becomes of classes."""

import random

from tests.support import Case, class_of, every_world, sample_world, sized, some_worlds, two_ways, wander
from turnbehind.changes import back_change, changed, fate, joining_lays, split_class
from turnbehind.classes import count_class, members
from turnbehind.errors import BadEnd, BadName, BadSize, NoWalker, Repeated, TooLarge, Unknown, Unlike
from turnbehind.histories import replay
from turnbehind.papers import comes_of
from turnbehind.reaches import dues, live_ways
from turnbehind.worlds import bag_at, head_of, is_world, make_web, make_world, names_of, place_of, tail_of

CALLS = (changed, back_change, split_class)


def some_change(world, chance):
    """A change of the world that is possible or not, of any kind."""
    places, ways = world[0][0], [row[0] for row in world[0][1]]
    names = [*names_of(world), None, None, "zy"]
    return chance.choice([
        ("lay", chance.choice(["zz", "w0", "a9"]), chance.choice(places), chance.choice(places)),
        ("lift", chance.choice([*ways, "zz"])), ("lift", chance.choice([*ways, "zz"])),
        ("come", chance.choice(places), chance.choice(names)), ("gone", chance.choice(places), chance.choice(names)),
        ("gone", chance.choice([*places, "zz"]), chance.choice(names)),
    ])


def possible(world, change):
    """True if the change can be made."""
    kind, *more = change
    if kind == "lay":
        ways = [row[0] for row in world[0][1]]
        return more[0] not in ways and len(ways) < 14 and more[1] != more[2] and set(more[1:]) <= set(world[0][0])
    if kind == "lift":
        return more[0] in [row[0] for row in world[0][1]]
    if more[0] not in world[0][0]:
        return False
    if kind == "come":
        return more[1] not in names_of(world) and sum(bag_at(world, place).many for place in world[0][0]) < 8
    bag = bag_at(world, more[0])
    return bag.alike > 0 if more[1] is None else more[1] in bag


def told_change(world, change):
    """The world after a change that is possible, part by part."""
    kind, *more = change
    rows = {way: (low, high) for way, low, high in world[0][1]}
    heads = {way: head_of(world, way) for way in rows}
    alike = {place: bag_at(world, place).alike for place in world[0][0]}
    named = {name: place_of(world, name) for name in names_of(world)}
    if kind == "lay":
        rows[more[0]], heads[more[0]] = more[1:], more[2]
    elif kind == "lift":
        del rows[more[0]], heads[more[0]]
    elif more[1] is None:
        alike[more[0]] += 1 if kind == "come" else -1
    elif kind == "come":
        named[more[1]] = more[0]
    else:
        del named[more[1]]
    web = make_web(world[0][0], [(way, *ends) for way, ends in rows.items()])
    return make_world(web, heads=list(heads.items()), alike=list(alike.items()), named=list(named.items()))


class Changing(Case):
    def test_each_kind(self):
        world = two_ways(heads=[("v", "a")], alike=[("a", 1)], named=[("bo", "a")])
        self.same(changed(world, ("lay", "uv", "b", "a")), make_world(
            make_web(["a", "b"], [("u", "a", "b"), ("uv", "a", "b"), ("v", "a", "b")]),
            heads=[("uv", "a"), ("v", "a")], alike=[("a", 1)], named=[("bo", "a")]))
        self.same(changed(change=("lift", "u"), world=world), make_world(
            make_web(["a", "b"], [("v", "a", "b")]), heads=[("v", "a")], alike=[("a", 1)], named=[("bo", "a")]))
        for change, more in (
            (("come", "a", None), {"alike": [("a", 2)], "named": [("bo", "a")]}),
            (("come", "b", "al"), {"alike": [("a", 1)], "named": [("bo", "a"), ("al", "b")]}),
            (("come", "a", "al"), {"alike": [("a", 1)], "named": [("bo", "a"), ("al", "a")]}),
            (("gone", "a", None), {"named": [("bo", "a")]}), (("gone", "a", "bo"), {"alike": [("a", 1)]}),
        ):
            self.same(changed(world, change), two_ways(heads=[("v", "a")], **more))

    def test_part_by_part_and_back(self):
        chance = random.Random(421)
        kinds = {}
        for world in [sample_world(), *some_worlds(300, seed=421)]:
            for change in [some_change(world, chance) for _ in range(4)]:
                if possible(world, change):
                    after = changed(world, change)
                    self.same(after, told_change(world, change))
                    self.assertTrue(is_world(after))
                    self.same(changed(after, back_change(world, change)), world)
                    kinds[change[0]] = kinds.get(change[0], 0) + 1
        self.assertGreater(min(kinds[kind] for kind in ("lay", "lift", "come", "gone")), 50)

    def test_change_that_leads_back(self):
        world = two_ways(heads=[("v", "a")], alike=[("a", 1)], named=[("bo", "a")])
        for change, back in (
            (("lay", "w", "b", "a"), ("lift", "w")), (("lift", "v"), ("lay", "v", "b", "a")),
            (("lift", "u"), ("lay", "u", "a", "b")), (("come", "b", None), ("gone", "b", None)),
            (("come", "b", "al"), ("gone", "b", "al")), (("gone", "a", None), ("come", "a", None)),
            (("gone", "a", "bo"), ("come", "a", "bo")),
        ):
            self.same(back_change(world, change), back)
            self.same(back_change(change=change, world=world), back)
        self.same((head_of(world, "v"), tail_of(world, "v")), ("a", "b"))

    def test_fourteen_ways_and_eight_walkers(self):
        rows = [(f"w{k:02d}", "a", "b") for k in range(14)]
        full = make_world(make_web(["a", "b"], rows), alike=[("a", 7)], named=[("al", "b")])
        thirteen = changed(full, ("lift", "w07"))
        self.same(changed(thirteen, ("lay", "w07", "a", "b")), full)
        seven = changed(full, ("gone", "a", None))
        self.same(changed(seven, ("come", "a", None)), full)
        for call in (changed, back_change):
            self.fails(BadSize("ways", 15), call, full, ("lay", "w07", "zz", "zz"))
            self.fails(BadSize("walkers", 9), call, full, ("come", "zz", "al"))
            self.fails(BadSize("walkers", 9), call, full, ("come", "a", None))

    def test_errors(self):
        world = two_ways(heads=[("v", "a")], alike=[("a", 1)], named=[("bo", "b")])
        for call in CALLS:
            for name in (None, True, False, 0, 7, "", "A", "1a", "a b", "abcdefghi"):
                self.fails(BadName(name), call, world, ("lay", name, "zz", "zz"))
                if name is not None:
                    self.fails(BadName(name), call, world, ("come", "zz", name))
            for change, error in (
                (("lay", "u", "zz", "zz"), Repeated("u")), (("lay", "v", "a", "a"), Repeated("v")),
                (("lay", "w", "zz", "yy"), Unknown("place", "zz")), (("lay", "w", "a", "yy"), Unknown("place", "yy")),
                (("lay", "w", "zz", "zz"), Unknown("place", "zz")), (("lay", "w", "u", "a"), Unknown("place", "u")),
                (("lay", "w", "a", "a"), BadEnd("w", "a")), (("lay", "a", "b", "b"), BadEnd("a", "b")),
                (("lift", "zz"), Unknown("way", "zz")), (("lift", ""), Unknown("way", "")),
                (("lift", "a"), Unknown("way", "a")), (("come", "zz", "bo"), Repeated("bo")),
                (("come", "zz", "al"), Unknown("place", "zz")), (("come", "zz", None), Unknown("place", "zz")),
                (("gone", "zz", "yy"), Unknown("place", "zz")), (("gone", "zz", None), Unknown("place", "zz")),
                (("gone", "a", "yy"), Unknown("walker", "yy")), (("gone", "b", "a"), Unknown("walker", "a")),
                (("gone", "b", "A b"), Unknown("walker", "A b")),
            ):
                self.fails(error, call, world, change)
        for call in (changed, back_change):
            self.fails(NoWalker("a"), call, world, ("gone", "a", "bo"))
            self.fails(NoWalker("b"), call, world, ("gone", "b", None))


class Splitting(Case):
    def check(self, world, change):
        """The groups are those that the changed members make, whichever world tells the class."""
        worlds = members(world)
        after = {rank: changed(end, change) for rank, end in enumerate(worlds) if possible(end, change)}
        groups = []
        for rank in after:
            at = [group for group in groups if comes_of(after[group[0]], after[rank])]
            if at:
                at[0].append(rank)
            else:
                groups.append([rank])
        self.same(split_class(world, change), [tuple(group) for group in groups])
        return groups, len(worlds) - len(after)

    def test_groups(self):
        chance = random.Random(422)
        many, left = {}, set()
        for world in some_worlds(400, seed=422, places=4, ways=6, walkers=3):
            change = some_change(world, chance)
            absent = change[0] == "gone" and change[1] in world[0][0] and change[2] in (None, *names_of(world))
            if count_class(world) <= 60 and (absent or possible(world, change)):
                groups, out = self.check(world, change)
                many[len(groups)] = many.get(len(groups), 0) + 1
                left.add(out > 0)
        self.assertLessEqual({0, 1, 2, 3}, set(many))
        self.same(left == {True, False}, True)

    def test_members_that_are_left_out(self):
        world = two_ways(heads=[("v", "a")], alike=[("a", 1)])
        self.same([bag_at(end, "a").many for end in members(world)], [0, 1, 1])
        self.same(split_class(world, ("gone", "a", None)), [(1,), (2,)])
        self.same(split_class(world=world, change=("gone", "b", None)), [(0,)])
        self.same(split_class(replay(world, [("u", None)]), ("gone", "a", None)), [(1,), (2,)])
        self.same(split_class(world, ("lift", "u")), [(0, 1), (2,)])
        self.same(split_class(world, ("come", "b", "al")), [(0, 1, 2)])
        none = make_world(make_web(["a", "b"], []), named=[("al", "a")])
        self.same((split_class(none, ("gone", "b", "al")), split_class(none, ("gone", "a", None))), ([], []))
        self.same(split_class(none, ("gone", "a", "al")), [(0,)])

    def test_new_list(self):
        world = two_ways(heads=[("v", "a")], alike=[("a", 1)])
        split_class(world, ("lift", "u")).append("more")
        self.same(split_class(world, ("lift", "u")), [(0, 1), (2,)])

    def test_classes_of_100_and_101_worlds(self):
        full, more = sized(100), sized(101)
        groups = split_class(full, ("lift", "w0"))
        self.same(sorted(rank for group in groups for rank in group), list(range(100)))
        self.check(full, ("gone", "b", "n0"))
        self.fails(TooLarge("class", 101), split_class, more, ("lift", "w0"))
        self.fails(TooLarge("class", 101), split_class, more, ("gone", "c", "n0"))
        self.fails(Unknown("way", "zz"), split_class, more, ("lift", "zz"))

    def test_eight_and_nine_live_ways(self):
        rows = [(f"w{k}", "a", "b") for k in range(9)]
        eight, nine = [make_world(make_web(["a", "b"], rows[:many]), alike=[("a", 1)]) for many in (8, 9)]
        self.same((len(live_ways(eight)), len(live_ways(nine)), count_class(eight)), (8, 9, 9))
        self.same(len(split_class(eight, ("lift", "w0"))), 2)
        # With one more way or walker there are nine live ways, but only those before the change count.
        self.same(split_class(eight, ("lay", "w9", "a", "b")), [tuple(range(9))])
        for change in (("lift", "w0"), ("gone", "b", None), ("come", "a", None)):
            self.fails(TooLarge("live", 9), split_class, nine, change)
        self.fails(BadEnd("z", "a"), split_class, nine, ("lay", "z", "a", "a"))
        self.fails(Unknown("walker", "al"), split_class, nine, ("gone", "a", "al"))


def some_pairs(seed, count=60):
    """Pairs of worlds of one web and with the same names, of one class or not."""
    chance = random.Random(seed)
    found = []
    for at, world in enumerate(some_worlds(count, seed=seed, places=4, ways=5, walkers=2)):
        found.append((world, replay(world, wander(world, 5, seed=at))))
        heads = [(row[0], chance.choice(row[1:])) for row in world[0][1]]
        spots = [(name, chance.choice(world[0][0])) for name in names_of(world)]
        alike = [(place, bag_at(world, place).alike) for place in world[0][0]]
        found.append((world, make_world(world[0], heads=heads, alike=alike, named=spots)))
    return found


class Fates(Case):
    def told(self, one, other, change):
        """The fate, by histories before and after the change."""
        after = changed(other, change) in class_of(changed(one, change))
        before = other in class_of(one)
        return {(True, True): "stay together", (True, False): "fall apart", (False, True): "join",
                (False, False): "stay apart"}[(before, after)]

    def test_by_histories(self):
        chance = random.Random(423)
        many = {}
        for one, other in some_pairs(423, 200):
            change = some_change(one, chance)
            if possible(one, change) and possible(other, change):
                found = fate(one, other, change)
                self.same(found, self.told(one, other, change))
                self.same(fate(other, one, change), found)
                many[found] = many.get(found, 0) + 1
                if change[0] in ("lay", "come"):
                    self.assertNotEqual(found, "fall apart")
                if change[0] == "lift" and head_of(one, change[1]) == head_of(other, change[1]):
                    self.assertNotEqual(found, "join")
                if change[0] == "gone":
                    self.assertNotEqual(found, "join")
        self.assertGreater(min(many.get(word, 0) for word in ("stay together", "fall apart", "stay apart")), 5)

    def test_each_fate(self):
        start = two_ways(heads=[("v", "a")], alike=[("a", 1)])
        end = replay(start, [("u", None), ("v", None)])
        bare, turned = two_ways(heads=[("u", "a")]), two_ways(heads=[("v", "a")])
        for one, other, change, word in (
            (start, end, ("come", "a", None), "stay together"), (start, end, ("gone", "a", None), "fall apart"),
            (start, end, ("lift", "u"), "fall apart"), (bare, turned, ("come", "b", None), "join"),
            (bare, turned, ("lift", "u"), "stay apart"), (bare, two_ways(), ("come", "a", None), "stay apart"),
            (two_ways(), two_ways(heads=[("u", "a")]), ("lift", "u"), "join"),
            (start, start, ("lift", "v"), "stay together"),
        ):
            self.same(fate(one, other, change), word)
            self.same(fate(change=change, other=other, one=one), word)

    def test_errors_of_both_by_class(self):
        rows = [("u", "a", "b"), ("v", "a", "b")]
        one = make_world(make_web(["a", "b"], rows), alike=[("a", 1)], named=[("al", "b")])
        other = make_world(make_web(["a", "c"], [("w", "a", "c")]), alike=[("c", 7)], named=[("bo", "a")])
        self.fails(BadName("A"), fate, one, other, ("lay", "A", "zz", "zz"))
        self.fails(BadName("A"), fate, one, other, ("come", "b", "A"))
        self.fails(BadSize("walkers", 9), fate, one, other, ("come", "zz", "al"))
        self.fails(Repeated("w"), fate, one, other, ("lay", "w", "zz", "zz"))
        self.fails(Repeated("u"), fate, one, other, ("lay", "u", "zz", "zz"))
        self.fails(Repeated("al"), fate, one, two_ways(), ("come", "zz", "al"))
        self.fails(Repeated("al"), fate, two_ways(), one, ("come", "zz", "al"))
        self.fails(Unknown("place", "c"), fate, one, other, ("lay", "z", "a", "c"))
        self.fails(Unknown("place", "b"), fate, one, other, ("lay", "z", "a", "b"))
        self.fails(Unknown("way", "u"), fate, one, other, ("lift", "u"))
        self.fails(Unknown("way", "w"), fate, one, other, ("lift", "w"))
        self.fails(Unknown("walker", "al"), fate, one, other, ("gone", "a", "al"))
        self.fails(Unknown("walker", "bo"), fate, one, other, ("gone", "b", "bo"))
        self.fails(Unknown("place", "c"), fate, one, other, ("gone", "c", "bo"))
        self.fails(BadEnd("z", "a"), fate, one, other, ("lay", "z", "a", "a"))
        self.fails(NoWalker("a"), fate, one, other, ("gone", "a", None))
        less = changed(other, ("gone", "c", None))
        self.fails(Unlike("web"), fate, one, less, ("come", "a", None))
        self.fails(Unlike("web"), fate, one, make_world(make_web(["a", "b"], rows[:1])), ("lay", "z", "a", "b"))
        self.fails(Unlike("web"), fate, one, make_world(make_web(["a", "b"], rows[:1])), ("lift", "u"))
        self.fails(Unlike("names"), fate, one, two_ways(), ("come", "a", "bo"))
        # The change would make the webs equal.
        webs = [make_web(["a", "b", "c"], [("u", *ends), ("v", "a", "b")]) for ends in ("ab", "bc")]
        self.fails(Unlike("web"), fate, make_world(webs[0], named=[("al", "a")]), make_world(webs[1]), ("lift", "u"))
        self.fails(Unlike("web"), fate, make_world(webs[0]), make_world(webs[1]), ("lift", "u"))
        self.fails(Unlike("names"), fate, two_ways(named=[("bo", "a")]), one, ("lift", "u"))
        full = make_world(make_web(["a", "b"], [(f"w{k}", "a", "b") for k in range(14)]))
        self.fails(BadSize("ways", 15), fate, one, full, ("lay", "u", "zz", "zz"))
        self.fails(BadSize("ways", 15), fate, full, one, ("lay", "u", "zz", "zz"))
        apart = two_ways(alike=[("a", 1)]), two_ways(alike=[("b", 1)])
        self.fails(NoWalker("a"), fate, *apart, ("gone", "a", None))
        self.fails(NoWalker("b"), fate, *apart, ("gone", "b", None))
        self.fails(NoWalker("a"), fate, make_world(make_web(["a", "b"], rows[:1])), one, ("gone", "a", None))


class Joining(Case):
    def test_each_pair(self):
        web = make_web(["a", "b", "c", "d"], [("u", "a", "b"), ("v", "a", "b"), ("w", "c", "d"), ("x", "c", "d")])
        pairs = []
        for alike, names in ((1, []), (0, ["al"]), (1, ["al"])):
            worlds = every_world(web, alike, names)
            both = [(one, other) for one in worlds for other in worlds if dues(one) == dues(other) and one != other]
            pairs += both[::len(both) // 60]
        many = 0
        for one, other in [*pairs, *some_pairs(424)]:
            places = one[0][0]
            wanted = [(tail, head) for tail in places for head in places
                      if tail != head and fate(one, other, ("lay", "zz", tail, head)) == "join"]
            self.same(joining_lays(one, other), wanted)
            if comes_of(one, other):
                self.same(wanted, [])
            many += wanted != []
        self.assertGreater(many, 20)

    def test_ordinary(self):
        web = make_web(["a", "b", "c"], [("u", "b", "c"), ("v", "b", "c")])
        one = make_world(web, heads=[("u", "b")], alike=[("a", 1)])
        other = make_world(web, heads=[("v", "b")], alike=[("a", 1)])
        self.same(joining_lays(one, other), [("a", "b"), ("a", "c")])
        self.same(joining_lays(other=one, one=other), [("a", "b"), ("a", "c")])
        self.same(joining_lays(one, one), [])
        joining_lays(one, other).append("more")
        self.same(joining_lays(one, other), [("a", "b"), ("a", "c")])
        names = {"places": ["a", "b", "c", "d"], "ways": [("w0", "a", "b"), ("w1", "c", "d")]}
        al, bo = [make_world(make_web(**names), named=[("al", one), ("bo", two)]) for one, two in ("ac", "ca")]
        self.same(joining_lays(al, bo), [(tail, head) for tail in "ab" for head in "cd"] + [
            (tail, head) for tail in "cd" for head in "ab"])

    def test_errors(self):
        rows = [(f"w{k}", "a", "b") for k in range(14)]
        full, less = [make_world(make_web([*"abcdefg"], rows[:many])) for many in (14, 13)]
        self.fails(BadSize("ways", 15), joining_lays, full, two_ways())
        self.fails(BadSize("ways", 15), joining_lays, two_ways(), full)
        self.fails(BadSize("ways", 15), joining_lays, full, full)
        self.fails(Unlike("web"), joining_lays, less, two_ways())
        self.fails(Unlike("names"), joining_lays, less, make_world(less[0], named=[("al", "a")]))
        self.fails(TooLarge("places", 7), joining_lays, less, less)
        six = make_world(make_web([*"abcdef"], rows[:13]), heads=[("w0", "a")])
        self.same(joining_lays(six, six), [])
        moved = make_world(six[0], heads=[("w1", "a")])
        self.same(joining_lays(six, moved), [])
        people = [make_world(world[0], heads=[(row[0], head) for row, head in zip(world[0][1], world[1])],
                             alike=[("f", 1)]) for world in (six, moved)]
        self.same(joining_lays(*people), [("f", "a"), ("f", "b")])
