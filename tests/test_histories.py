"""Points 5, 8, 19 to 23, and the end of point 42: histories."""

from tests.support import ODD_VALUES, Case, sample_world, some_worlds, two_ways, wander
from turnbehind.deeds import can_go, go
from turnbehind.errors import BadNumber, BadSize, NoDeed, Unknown, Unlike
from turnbehind.histories import cut, follow, is_history, replay, settle, shorten, take_back, trace, turned
from turnbehind.worlds import differing, make_web, make_world

NO_NUMBERS = [None, True, False, "", "1", -1, 10 ** 19]
REPLAYS = (replay, trace, shorten, settle)


def facing():
    """A world with a way from a to b and one from b to a, an alike walker at a and al at b."""
    return two_ways(heads=[("v", "a")], alike=[("a", 1)], named=[("al", "b")])


def lists(deeds):
    """The deeds as lists in a list."""
    return [list(deed) for deed in deeds]


def histories(count, size, seed):
    """So many pairs of a world and a history from it, of at most so many deeds."""
    return [(world, wander(world, size, seed + k)) for k, world in enumerate(some_worlds(count, seed=seed))]


class Replay(Case):
    def test_ordinary(self):
        world = two_ways(heads=[("v", "a")], alike=[("a", 1)])
        end = two_ways(heads=[("u", "a")], alike=[("a", 1)])
        self.same(replay(world, [("u", None), ("v", None)]), end)
        self.same(trace(world, [["u", None], ["v", None]]), [world, go(world, "u"), end])
        self.same(replay(deeds=(["u", None], ("v", None)), world=world), end)
        self.same(trace(deeds=(("u", None),), world=world), [world, go(world, "u")])

    def test_empty(self):
        for world in (two_ways(), sample_world()):
            for deeds in ([], ()):
                self.same(replay(world, deeds), world)
                self.same(trace(world, deeds), [world])
                self.same(shorten(world, deeds), ())
                self.same(settle(world, deeds), ())
                self.same(follow(world, deeds, deeds), ())

    def test_deed_by_deed(self):
        for world, deeds in histories(40, 20, 21):
            worlds = [world]
            for way, walker in deeds:
                worlds.append(go(worlds[-1], way, walker))
            self.same(trace(world, deeds), worlds)
            self.same(replay(world, lists(deeds)), worlds[-1])

    def test_new_list(self):
        world = facing()
        trace(world, [("u", None)]).append(world)
        self.assertEqual(len(trace(world, [("u", None)])), 2)

    def test_refused(self):
        for call in REPLAYS:
            self.fails(NoDeed(0, "v", "nobody"), call, facing(), [("v", None), ("u", "al")])
            self.fails(NoDeed(0, "u", "elsewhere"), call, facing(), [["u", "al"]])
            self.fails(NoDeed(2, "v", "nobody"), call, facing(), (("v", "al"), ("v", "al"), ("v", None)))
            self.fails(NoDeed(2, "v", "elsewhere"), call, facing(), [("v", "al"), ("v", None), ("v", "al")])

    def test_unknown(self):
        for call in REPLAYS:
            self.fails(Unknown("way", "zz"), call, facing(), [("zz", "yy")])
            self.fails(Unknown("walker", "yy"), call, facing(), [("u", "yy"), ("zz", None)])
            self.fails(Unknown("walker", ""), call, facing(), [("u", "")])

    def test_unknown_of_a_later_deed_before_a_refused_earlier_one(self):
        for call in REPLAYS:
            self.fails(Unknown("way", "zz"), call, facing(), [("v", None), ("u", None), ("zz", None)])
            self.fails(Unknown("walker", "bo"), call, facing(), [("u", "al"), ("u", "bo")])
        self.fails(Unknown("way", "zz"), follow, facing(), [("v", None)], [("zz", None)])

    def test_three_thousand_deeds(self):
        world = facing()
        deeds = [("u", None), ("v", None), ("v", None), ("u", None)] * 750
        self.same(replay(world, deeds), world)
        self.assertEqual(len(trace(world, deeds)), 3001)
        self.same(shorten(world, deeds), ())
        self.same(follow(world, deeds[:1500], deeds[1500:]), tuple(deeds))
        self.same(take_back(deeds), tuple(deeds[::-1]))
        self.same(turned(deeds), ())
        self.same(is_history(world, tuple(deeds), world), True)
        self.fails(NoDeed(2998, "u", "nobody"), replay, world, [*deeds[:-2], ("u", None), ("u", None)])

    def test_equal_world_put_together_elsewhere(self):
        world = ((("a", "b"), (("u", "a", "b"),)), ("b",), ((1, ()), (0, ())))
        self.same(replay(world, [("u", None)]), (world[0], ("a",), ((0, ()), (1, ()))))


class TakeBack(Case):
    def test_reverse_order(self):
        self.same(take_back([["u", None], ("v", "al")]), (("v", "al"), ("u", None)))
        self.same(take_back(()), ())
        self.same(take_back(deeds=[("zz", "yy")]), (("zz", "yy"),))

    def test_leads_back(self):
        for world, deeds in histories(40, 15, 22):
            self.same(replay(replay(world, deeds), take_back(deeds)), world)


class Cut(Case):
    def test_parts(self):
        deeds = [["u", None], ("v", "al"), ["zz", ""]]
        wanted = (("u", None), ("v", "al"), ("zz", ""))
        for at in range(4):
            self.same(cut(deeds, at), (wanted[:at], wanted[at:]))
            self.same(cut(tuple(deeds), at), (wanted[:at], wanted[at:]))
        self.same(cut(at=0, deeds=[]), ((), ()))

    def test_bad_numbers(self):
        for at in NO_NUMBERS:
            self.fails(BadNumber(at), cut, [("u", None)], at)
        self.fails(BadNumber(2), cut, [("u", None)], 2)
        self.fails(BadNumber(1), cut, (), 1)


class Follow(Case):
    def test_both(self):
        world = facing()
        self.same(follow(world, [["u", None]], (("v", "al"),)), (("u", None), ("v", "al")))
        self.same(follow(second=[["u", None]], first=[], world=world), (("u", None),))

    def test_index_in_the_whole(self):
        self.fails(NoDeed(2, "v", "nobody"), follow, facing(), [("v", "al"), ("v", "al")], [("v", None)])
        self.fails(NoDeed(0, "v", "nobody"), follow, facing(), [("v", None)], [("v", None)])
        self.fails(NoDeed(2, "v", "nobody"), follow, facing(), [], [("u", None), ("v", "al"), ("v", None)])

    def test_unknown(self):
        self.fails(Unknown("walker", "bo"), follow, facing(), [("u", "bo")], [("zz", None)])
        self.fails(Unknown("way", "zz"), follow, facing(), [("u", None)], [("zz", None), ("u", "bo")])

    def test_arguments_stay(self):
        first, second = [["u", None]], [["v", "al"]]
        found = follow(facing(), first, second)
        first[0][0], second[0][0] = "zz", "yy"
        self.same(found, (("u", None), ("v", "al")))


def shortened(world, deeds):
    """The kept deeds, found as the document tells it."""
    kept = []
    for deed in deeds:
        kept.append(deed)
        last = replay(world, kept)
        earlier = [size for size in range(len(kept)) if replay(world, kept[:size]) == last]
        if earlier:
            kept = kept[:earlier[0]]
    return tuple(kept)


class Shorten(Case):
    def test_there_and_back(self):
        self.same(shorten(facing(), [("u", None), ["u", None]]), ())
        self.same(shorten(facing(), [["v", "al"], ["u", None], ("u", None), ("v", "al")]), ())
        self.same(shorten(facing(), [["u", None], ("v", "al")]), (("u", None), ("v", "al")))

    def test_back_to_a_world_between(self):
        deeds = [("v", "al"), ("u", None), ("u", None), ("v", "al"), ("v", "al")]
        self.same(shorten(deeds=deeds, world=facing()), (("v", "al"),))

    def test_alike_walkers_on_two_ways(self):
        world = two_ways(alike=[("a", 2)])
        self.same(shorten(world, [("u", None), ("v", None), ("u", None), ("v", None)]), ())
        deeds = (("u", None), ("v", None), ("u", None))
        self.same(shorten(world, deeds), deeds)

    def test_as_the_document_tells(self):
        for world, deeds in histories(60, 25, 23):
            found = shorten(world, deeds)
            self.same(found, shortened(world, deeds))
            self.same(replay(world, found), replay(world, deeds))
            self.same(shorten(world, lists(deeds)), found)
            worlds = trace(world, found)
            self.assertEqual(len(set(worlds)), len(worlds))


def settled(world, deeds):
    """The settled history, found as the document tells it."""
    deeds = list(deeds)
    order = [(way, walker is not None, walker or "") for way, walker in deeds]
    index = 0
    while index + 1 < len(deeds):
        now = replay(world, deeds[:index])
        first, second = deeds[index], deeds[index + 1]
        possible = can_go(now, *second) and can_go(go(now, *second), *first)
        if order[index + 1] < order[index] and possible:
            deeds[index:index + 2] = [second, first]
            order[index:index + 2] = [order[index + 1], order[index]]
            index = 0
        else:
            index += 1
    return tuple(deeds)


class Settle(Case):
    def test_swapped(self):
        self.same(settle(facing(), [["v", "al"], ["u", None]]), (("u", None), ("v", "al")))
        self.same(settle(deeds=(("u", None), ("v", "al")), world=facing()), (("u", None), ("v", "al")))

    def test_not_possible_in_the_other_order(self):
        web = make_web(["a", "b", "c"], [("u", "b", "c"), ("v", "a", "b")])
        world = make_world(web, alike=[("a", 1)])
        self.same(settle(world, [("v", None), ("u", None)]), (("v", None), ("u", None)))
        two = make_world(web, alike=[("a", 1), ("b", 1)])
        self.same(settle(two, [("v", None), ("u", None)]), (("u", None), ("v", None)))

    def test_two_deeds_of_one_way(self):
        world = two_ways(alike=[("b", 1)], named=[("al", "a"), ("bo", "b")])
        self.same(settle(world, [("u", "al"), ("u", None)]), (("u", "al"), ("u", None)))
        self.same(settle(world, [("u", "al"), ("u", "bo")]), (("u", "al"), ("u", "bo")))

    def test_twelve_and_thirteen_deeds(self):
        deeds = [("v", "al"), ("v", "al"), ("u", None), ("u", None)] * 3
        self.same(settle(facing(), deeds), settled(facing(), deeds))
        self.same(settle(facing(), deeds)[0], ("u", None))
        self.fails(BadSize("deeds", 13), settle, facing(), [*deeds, ("v", "al")])
        self.fails(BadSize("deeds", 13), settle, facing(), [*deeds, ("zz", "yy")])
        self.fails(BadSize("deeds", 3000), settle, facing(), [("v", None)] * 3000)

    def test_as_the_document_tells(self):
        changed = 0
        for world, deeds in histories(150, 12, 24):
            found = settle(world, deeds)
            self.same(found, settled(world, deeds))
            self.same(settle(world, lists(deeds)), found)
            self.same(replay(world, found), replay(world, deeds))
            changed += found != deeds
        self.assertGreater(changed, 20)


class Turned(Case):
    def test_odd_numbers(self):
        self.same(turned([["w", None], ("u", "al"), ("w", "al"), ("w", None), ("v", None), ["v", ""]]), ("u", "w"))
        self.same(turned(()), ())
        self.same(turned(deeds=[("zz", None)]), ("zz",))
        self.same(turned([("b", None), ("a", None), ("", None)]), ("", "a", "b"))

    def test_the_differing_ways(self):
        for world, deeds in histories(60, 15, 25):
            self.same(turned(deeds), differing(world, replay(world, deeds)))


class IsHistory(Case):
    def test_histories(self):
        for world, deeds in histories(60, 15, 26):
            end = replay(world, deeds)
            self.assertIs(is_history(world, deeds, end), True)
            self.assertIs(is_history(start=world, end=end, deeds=deeds), True)
            self.assertIs(is_history(world, lists(deeds), end), False)
            self.assertIs(is_history(world, list(deeds), end), False)
            if deeds:
                self.assertIs(is_history(world, tuple(lists(deeds)), end), False)
                self.assertIs(is_history(world, deeds[:-1], end), False)
                self.assertIs(is_history(world, deeds[:-1] + (list(deeds[-1]),), end), False)
                self.assertIs(is_history(world, deeds[:-1] + (deeds[-1] + (None,),), end), False)
                self.assertIs(is_history(world, deeds[:-1] + (deeds[-1][:1],), end), False)

    def test_empty_history(self):
        world = facing()
        self.assertIs(is_history(world, (), world), True)
        self.assertIs(is_history(world, (), go(world, "u")), False)
        self.assertIs(is_history(world, [], world), False)

    def test_refused_deed(self):
        world = facing()
        self.assertIs(is_history(world, (("v", None),), world), False)
        self.assertIs(is_history(world, (("u", "al"),), world), False)
        self.assertIs(is_history(world, (("v", None), ("v", None)), world), False)
        self.assertIs(is_history(world, (("u", "al"), ("u", "al")), world), False)
        self.assertIs(is_history(world, (("u", None), ("v", "al"), ("v", None)), world), False)

    def test_other_values(self):
        world = two_ways(alike=[("a", 1)], named=[("bo", "a")])
        for end in (world, go(world, "u")):
            self.judges(lambda value, end=end: is_history(world, value, end), ODD_VALUES, False)
        for value in ((("u", None), ("zz", None)), (("u", None), ("u", "zz")), (("u", None), None), (("u", False),)):
            self.assertIs(is_history(world, value, go(world, "u")), False)

    def test_unlike(self):
        named = two_ways(named=[("al", "a")])
        for value in ((), [], None, True, 5, "x", (("zz", None),)):
            self.fails(Unlike("names"), is_history, named, value, two_ways())
            self.fails(Unlike("names"), is_history, two_ways(), value, named)
            self.fails(Unlike("web"), is_history, named, value, sample_world())
