"""Points 34 and 35: when a world comes of another one, and papers that it does not."""

from itertools import product

from tests.support import ODD_VALUES, Case, class_of, every_world, sample_world, some_worlds, subsets, two_ways, wander
from turnbehind.errors import Unlike
from turnbehind.histories import replay
from turnbehind.papers import comes_of, find_paper, is_paper
from turnbehind.reaches import dues, is_shore, reach, region_of, still_ways
from turnbehind.worlds import beside, differing, make_web, make_world, mirror, names_of, place_of, rename_world

LINE = make_web(["a", "b", "c"], [("u", "a", "b"), ("v", "b", "c"), ("w", "a", "b")])


def papers_of(start):
    """All tuples with the shape of a paper over the things of the world."""
    places = start[0][0]
    shores = [part for part in subsets(places) if is_shore(start, part)]
    found = [("due", place) for place in places] + [("shore", part) for part in subsets(places)]
    for name, shore, side in product(names_of(start), shores, subsets(places)):
        found.append(("name", name, shore, side))
    return found


def holds(start, end, paper):
    """True if a tuple with the shape of a paper meets its conditions, word by word as point 35 tells."""
    ends = {way: (low, high) for way, low, high in start[0][1]}
    if paper[0] == "due":
        at = start[0][0].index(paper[1])
        return dues(start)[at] != dues(end)[at]
    if paper[0] == "shore":
        outside = [way for way in differing(start, end) if not set(ends[way]) <= set(paper[1])]
        return is_shore(start, paper[1]) and outside != []
    _, name, shore, side = paper
    if not is_shore(start, shore) or not set(side) <= set(shore):
        return False
    others = set(shore) - set(side)
    crossing = [way for way in ends if set(ends[way]) & set(side) and set(ends[way]) & others]
    return crossing == [] and place_of(start, name) in side and place_of(end, name) not in side


class Coming(Case):
    def test_as_histories_tell(self):
        for alike, names in ((1, ["al"]), (2, []), (0, ["al", "bo"])):
            worlds = every_world(LINE, alike, names)
            for start in worlds[::3]:
                found = class_of(start)
                for end in worlds:
                    self.same(comes_of(start, end), end in found)

    def test_classes(self):
        for world in some_worlds(30, seed=71):
            end = replay(world, wander(world, 9))
            self.same((comes_of(world, end), comes_of(end, world), comes_of(world, world)), (True, True, True))
        self.same(comes_of(end=two_ways(), start=two_ways()), True)

    def test_each_condition_alone(self):
        start = make_world(LINE, heads=[("u", "b"), ("v", "c"), ("w", "a")], alike=[("c", 1)], named=[("al", "c")])
        due = make_world(LINE, heads=[("u", "b"), ("v", "c"), ("w", "a")], alike=[("b", 1)], named=[("al", "c")])
        still = make_world(LINE, heads=[("u", "a"), ("v", "c"), ("w", "b")], alike=[("c", 1)], named=[("al", "c")])
        self.same((comes_of(start, due), comes_of(start, still)), (False, False))
        apart = make_web(["a", "b"], [])
        here = make_world(apart, alike=[("a", 1)], named=[("al", "b")])
        there = make_world(apart, alike=[("b", 1)], named=[("al", "a")])
        self.same((comes_of(here, there), comes_of(here, here)), (False, True))

    def test_beside(self):
        one, two = two_ways(alike=[("b", 1)]), two_ways()
        later = two_ways(heads=[("u", "a")], alike=[("b", 1)])
        names = {"places": [("a", "c"), ("b", "d")], "ways": [("u", "x"), ("v", "y")]}
        other, moved = rename_world(two, **names), rename_world(mirror(two), **names)
        self.same(comes_of(beside(one, other), beside(one, other)), True)
        self.same(comes_of(beside(one, other), beside(one, moved)), False)
        self.same(comes_of(beside(one, other), beside(later, other)), False)
        self.same(comes_of(beside(other, one), beside(other, later)), False)

    def test_unlike(self):
        for call in (comes_of, find_paper):
            self.fails(Unlike("web"), call, two_ways(), make_world(LINE, named=[("al", "a")]))
            self.fails(Unlike("names"), call, two_ways(named=[("al", "a")]), two_ways(named=[("bo", "a")]))
            self.fails(Unlike("names"), call, start=two_ways(), end=two_ways(named=[("bo", "a")]))


class Found(Case):
    def test_example_of_the_document(self):
        self.same(find_paper(two_ways(heads=[("v", "a")]), two_ways(heads=[("u", "a")])), ("shore", ()))

    def test_dues_first(self):
        start = make_world(LINE, heads=[("u", "b")], alike=[("c", 1)])
        end = make_world(LINE, heads=[("u", "a")], alike=[("b", 1)])
        self.same(find_paper(start, end), ("due", "a"))
        self.same(find_paper(start=start, end=make_world(LINE, heads=[("u", "b")], alike=[("b", 1)])), ("due", "b"))

    def test_then_the_shore(self):
        start = make_world(LINE, heads=[("u", "b"), ("w", "a")], alike=[("c", 1)], named=[("al", "c")])
        end = make_world(LINE, heads=[("u", "a"), ("w", "b")], alike=[("c", 1)], named=[("al", "c")])
        self.same(find_paper(start, end), ("shore", ("c",)))

    def test_then_the_least_name(self):
        web = make_web(["a", "b", "c", "d"], [("u", "a", "b"), ("v", "c", "d")])
        start = make_world(web, named=[("al", "a"), ("bo", "a"), ("cy", "c"), ("dy", "c")])
        end = make_world(web, named=[("al", "a"), ("bo", "c"), ("cy", "a"), ("dy", "c")])
        every = ("a", "b", "c", "d")
        self.same(find_paper(start, end), ("name", "bo", every, ("a", "b")))
        self.same(find_paper(end, start), ("name", "bo", every, ("c", "d")))
        outside = make_world(web, heads=[("v", "c")], named=[("al", "a"), ("bo", "a"), ("cy", "a"), ("dy", "c")])
        last = make_world(web, heads=[("v", "c")], named=[("al", "a"), ("bo", "c"), ("cy", "a"), ("dy", "a")])
        self.same(find_paper(outside, last), ("name", "bo", ("a", "b", "c"), ("a", "b")))

    def test_exactly_if_it_does_not_come(self):
        for alike, names in ((1, ["al"]), (2, []), (0, ["al", "bo"])):
            worlds = every_world(LINE, alike, names)
            for start in worlds[::5]:
                for end in worlds[::2]:
                    self.check(start, end)

    def check(self, start, end):
        """The paper is the one that point 35 tells, and there is none exactly if the one world comes of the other."""
        paper = find_paper(start, end)
        self.same(comes_of(start, end), paper is None)
        wanted = [("due", place) for place in start[0][0]] + [("shore", reach(start))]
        homes = [(name, region_of(start, place_of(start, name))) for name in names_of(start)]
        wanted.extend([("name", name, reach(start), home) for name, home in homes])
        right = [one for one in wanted if holds(start, end, one)]
        self.same(paper, right[0] if right else None)
        if paper is not None:
            self.same(is_paper(start, end, paper), True)


class Judged(Case):
    def test_every_tuple(self):
        for alike, names in ((1, ["al"]), (2, []), (0, ["al", "bo"])):
            worlds = every_world(LINE, alike, names)
            for start in worlds[::23]:
                papers = papers_of(start)
                for end in worlds[::13]:
                    judged = [is_paper(start, end, paper) for paper in papers]
                    self.same(judged, [holds(start, end, paper) for paper in papers])
                    self.same(any(judged), not comes_of(start, end))

    def test_conditions_of_a_name(self):
        web = make_web(["a", "b", "c", "d"], [("u", "a", "b"), ("v", "b", "c")])
        start = make_world(web, heads=[("u", "b"), ("v", "b")], alike=[("d", 1)], named=[("al", "b")])
        end = make_world(web, heads=[("u", "b"), ("v", "b")], alike=[("b", 1)], named=[("al", "d")])
        every = ("a", "b", "c", "d")
        for shore, side in ((("b", "d"), ("b",)), (every, ("a", "b", "c")), (("a", "b", "d"), ("a", "b"))):
            self.same(is_paper(start, end, ("name", "al", shore, side)), True)
        wrong = [
            (("b",), ("b",)), (("a", "d"), ("a",)), (("b", "d"), ()), (("b", "d"), ("d",)), (("b", "d"), ("b", "d")),
            (every, ("b",)), (every, ("a", "b")), (every, ("b", "c")), (("b", "d"), ("a", "b")), (("d", "b"), ("b",)),
            (every, ("b", "a", "c")), (every, ("a", "b", "b", "c")), (("b", "d"), ["b"]), (["b", "d"], ("b",)),
        ]
        for shore, side in wrong:
            self.same(is_paper(start, end, ("name", "al", shore, side)), False)
        self.same(still_ways(start), ("u", "v"))

    def test_shore_that_is_not_the_reach(self):
        start = make_world(LINE, heads=[("u", "b"), ("v", "b"), ("w", "a")])
        end = make_world(LINE, heads=[("u", "a"), ("v", "b"), ("w", "b")])
        self.same([part for part in subsets(LINE[0]) if is_paper(start, end, ("shore", part))], [()])
        turned = make_world(LINE, heads=[("u", "a"), ("v", "c"), ("w", "b")])
        self.same(is_paper(start, turned, ("shore", ("a", "b"))), True)
        self.same(is_paper(start, turned, ("shore", ("a", "b", "c"))), False)
        self.same(is_paper(start, turned, ("shore", ("a",))), False)
        self.same(is_paper(start, turned, ("due", "b")), True)

    def test_other_values(self):
        start = two_ways(heads=[("v", "a")], named=[("al", "b")], alike=[("a", 1)])
        end = two_ways(heads=[("u", "a")], named=[("al", "a")], alike=[("a", 1)])
        self.same(is_paper(paper=("due", "a"), end=end, start=start), True)
        values = [
            *ODD_VALUES, (), "due", ("due",), ("due", "a", "a"), ["due", "a"], ("due", "zz"), ("due", ("a",)),
            ("due", ["a"]), ("due", None), ("due", True), ("due", 0), ("due", ""), ("dues", "a"), (None, "a"),
            (True, "a"), (("due",), "a"), (["due"], "a"), ("shore",), ("shore", "a"), ("shore", ()),
            ("shore", ("a", "b")), ("shore", ["a"]), ("shore", None), ("shore", ("b", "a")), ("shore", (), ()),
            ("name", "al"), ("name", "al", ("a", "b")), ("name", "al", ("a", "b"), ("a", "b"), ()), ("name",),
            ("name", "al", ("a", "b"), ("a", "b")), ("name", "zz", ("a", "b"), ("a", "b")),
            ("name", None, ("a", "b"), ("b",)), ("name", ["al"], ("a", "b"), ("b",)), ("name", True, (), ()),
            ("name", "al", ("a", "b"), ("b",)), ("name", "al", "ab", "b"), ("name", "al", None, None),
            ("name", "al", ("a", "b"), True), ("name", "al", ("a", "b"), ("b", "zz")), ("name", "al", ("b",), ("b",)),
            ("name", "al", (("a", "b"),), (("b",),)), ("name", "al", (1, True), (1,)),
        ]
        self.judges(lambda value: is_paper(start, end, value), values, False)

    def test_other_words(self):
        start = make_world(LINE, heads=[("u", "b"), ("v", "b"), ("w", "a")], named=[("al", "a")])
        end = make_world(LINE, heads=[("u", "a"), ("v", "c"), ("w", "b")], named=[("al", "b")])
        right = [("due", "a"), ("shore", ("a", "b"))]
        apart = make_web(["a", "b"], [])
        here, there = [make_world(apart, alike=[(one, 1)], named=[("al", two)]) for one, two in ("ab", "ba")]
        stays = ("name", "al", ("a", "b"), ("b",))
        for one, two, papers in ((start, end, right), (here, there, [stays])):
            for paper in papers:
                self.same(is_paper(one, two, paper), True)
                for word in ("", "due", "shore", "name", "shores", None, True, 0, (), ("shore",), ["shore"], []):
                    self.same(is_paper(one, two, (word, *paper[1:])), word == paper[0])

    def test_none_for_a_world_that_comes(self):
        for value in [*ODD_VALUES, ("due", "a"), ("shore", ()), ("shore", ("a", "b"))]:
            self.same(is_paper(two_ways(alike=[("b", 1)]), two_ways(alike=[("b", 1)]), value), False)

    def test_unlike_whatever_the_value_is(self):
        for value in (None, True, [], (), ("due", "a"), ("shore", ()), "zz"):
            self.fails(Unlike("web"), is_paper, two_ways(), make_world(LINE), value)
            self.fails(Unlike("names"), is_paper, two_ways(), two_ways(named=[("al", "a")]), value)

    def test_sample(self):
        start = sample_world()
        end = replay(start, wander(start, 40))
        for paper in papers_of(start):
            self.same(is_paper(start, end, paper), False)
