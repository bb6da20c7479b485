"""Points 43 and 46: pictures, and what is a bar."""

import random
from itertools import product

from tests.support import ODD_VALUES, Case, class_of, sample_world, some_worlds, subsets, two_ways
from turnbehind.errors import BadEnd, BadNumber, Repeated, Unknown
from turnbehind.pictures import is_bar, join_pictures, make_picture, picture_of, shows
from turnbehind.reaches import dues, is_shore
from turnbehind.worlds import bag_at, head_of, make_web, make_world, names_of, place_of, tail_of

EMPTY = ((), (), ())
# The first error that is due, for a picture and the sample world.
WRONG = [
    ({"heads": [("zz", "yy")]}, Unknown("way", "zz")),
    ({"heads": [("u", "yy"), ("zz", "a")]}, Unknown("place", "yy")),
    ({"heads": [("u", "c"), ("v", "zz")]}, Unknown("place", "zz")),
    ({"heads": [("u", "c"), ("zz", "c")]}, Unknown("way", "zz")),
    ({"heads": [("u", "c")], "counts": [("zz", 1)]}, Unknown("place", "zz")),
    ({"heads": [("u", "c")], "counts": [("a", 1)], "spots": [("zz", "yy")]}, Unknown("walker", "zz")),
    ({"heads": [("u", "c")], "counts": [("yy", 1)], "spots": [("al", "zz")]}, Unknown("place", "yy")),
    ({"heads": [("u", "c")], "spots": [("al", "zz"), ("zz", "a")]}, Unknown("place", "zz")),
    ({"heads": [("u", "c")], "spots": [("al", "a"), ("zz", "a")]}, Unknown("walker", "zz")),
    ({"heads": [("", "a")]}, Unknown("way", "")),
    ({"spots": [("a", "a")]}, Unknown("walker", "a")),
    ({"heads": [("u", "a"), ("v", "d"), ("w", "a")]}, BadEnd("v", "d")),
    ({"heads": [("w", "a")], "counts": [("a", 8)], "spots": [("al", "f")]}, BadEnd("w", "a")),
]


def some_pictures(world, count, *, seed=1, most=3):
    """So many pictures of the world, the same ones in each run."""
    chance = random.Random(seed)
    found = []
    for _ in range(count):
        often = chance.choice((0.2, 0.5, 0.8))
        found.append(make_picture(
            heads=[(row[0], chance.choice(row[1:])) for row in world[0][1] if chance.random() < often],
            counts=[(place, chance.randint(0, most)) for place in world[0][0] if chance.random() < often],
            spots=[(name, chance.choice(world[0][0])) for name in names_of(world) if chance.random() < often],
        ))
    return found


def told_in(world, picture):
    """True if all that the picture tells is so in the world, pair by pair."""
    heads, counts, spots = picture
    found = [head_of(world, way) == place for way, place in heads]
    found += [bag_at(world, place).many == number for place, number in counts]
    return all(found + [place_of(world, name) == place for name, place in spots])


def holds(world, picture, bar):
    """True if a tuple with the shape of a bar meets its conditions, word by word as point 46 tells."""
    heads, counts, spots = [dict(pairs) for pairs in picture]
    ends = {row[0]: set(row[1:]) for row in world[0][1]}
    if bar[0] == "crowd":
        return bar[1] in counts and list(spots.values()).count(bar[1]) > counts[bar[1]]
    shore = bar[2]
    if not is_shore(world, shore):
        return False
    if bar[0] == "still":
        return bar[1] in heads and not ends[bar[1]] <= set(shore) and heads[bar[1]] != head_of(world, bar[1])
    if bar[0] == "name":
        _, name, shore, side = bar
        crossing = [way for way in ends if ends[way] & set(side) and ends[way] & (set(shore) - set(side))]
        if not set(side) <= set(shore) or place_of(world, name) not in side or crossing:
            return False
        return name in spots and spots[name] not in side
    needs = dict(zip(world[0][0], dues(world)))
    for place in needs:
        needs[place] += counts.get(place, list(spots.values()).count(place))
    tails = {way: tail_of(world, way) for way in ends if not ends[way] <= set(shore)}
    for way in heads:
        if way not in tails:
            tails[way] = min(ends[way] - {heads[way]})
    bound = [way for way in tails if tails[way] in bar[1]]
    free = [way for way in ends if way not in tails]
    total = sum(needs[place] for place in bar[1])
    if bar[0] == "asks":
        return total > len(bound) + len([way for way in free if ends[way] & set(bar[1])])
    return set(bar[1]) <= set(counts) and total < len(bound) + len([way for way in free if ends[way] <= set(bar[1])])


def bars_of(world):
    """All tuples with the shape of a bar over the things of the world."""
    places, ways = world[0]
    parts = subsets(places)
    shores = [part for part in parts if is_shore(world, part)]
    found = [("crowd", place) for place in places]
    found += [("still", row[0], part) for row in ways for part in parts]
    found += [("name", name, part, side) for name in names_of(world) for part in shores for side in parts]
    return found + [(kind, part, shore) for kind in ("asks", "holds") for part in parts for shore in shores]


class Making(Case):
    def test_ascending_pairs(self):
        self.same(make_picture(), EMPTY)
        told = {"heads": [["v", "a"], ("u", "b")], "counts": (("b", 0), ["a", 8]), "spots": [("bo", "a"), ("al", "b")]}
        self.same(make_picture(**told), ((("u", "b"), ("v", "a")), (("a", 8), ("b", 0)), (("al", "b"), ("bo", "a"))))
        self.same(make_picture(heads=(["", "A b"],), spots=[("NOT A NAME AT ALL", "")]),
                  ((("", "A b"),), (), (("NOT A NAME AT ALL", ""),)))
        self.same(make_picture(heads=[("u", "a")], counts=[("u", 1)], spots=[("u", "u")]),
                  ((("u", "a"),), (("u", 1),), (("u", "u"),)))

    def test_arguments_are_kept(self):
        heads, counts, spots = [["v", "a"], ("u", "b")], [["b", 1], ["a", 0]], [["bo", "a"]]
        make_picture(heads=heads, counts=counts, spots=spots)
        self.same((heads, counts, spots), ([["v", "a"], ("u", "b")], [["b", 1], ["a", 0]], [["bo", "a"]]))

    def test_numbers(self):
        for number in (None, True, False, "", "1", -1, 9, 10 ** 19, -10 ** 19):
            self.fails(BadNumber(number), make_picture, counts=[("a", 8), ("b", number), ("c", 99)])
            self.fails(BadNumber(number), make_picture, heads=[("u", "a"), ("u", "a")], counts=[["b", number]])

    def test_repeated(self):
        self.fails(Repeated("u"), make_picture, heads=[("v", "a"), ("u", "a"), ("u", "a"), ("v", "b")])
        self.fails(Repeated("v"), make_picture, heads=[("v", "a"), ["v", "b"]], counts=[("a", 1), ("a", 1)])
        self.fails(Repeated("a"), make_picture, counts=[("a", 1), ("a", 2)], spots=[("al", "a"), ("al", "a")])
        self.fails(Repeated("al"), make_picture, heads=[("al", "a")], spots=[("al", "a"), ("al", "b")])


class Showing(Case):
    def test_sample(self):
        world = sample_world()
        picture = (
            (("u", "b"), ("v", "a"), ("w", "c"), ("x", "e"), ("y", "a"), ("z", "d")),
            (("a", 2), ("b", 0), ("c", 1), ("d", 2), ("e", 0), ("f", 0)),
            (("al", "c"), ("bo", "a"), ("cy", "d")),
        )
        self.same(picture_of(world), picture)
        self.same(picture_of(world=make_world(make_web(["a", "b"], []))), ((), (("a", 0), ("b", 0)), ()))
        self.same((shows(world, picture), shows(world, EMPTY)), (True, True))
        for told in ({"heads": [("u", "b"), ("v", "b")]}, {"counts": [("a", 2), ("d", 1)]}, {"counts": [("b", 1)]},
                     {"spots": [("bo", "a"), ("cy", "e")]}, {"counts": [("a", 1)]}):
            self.same(shows(picture=make_picture(**told), world=world), False)
        for told in ({"heads": [("v", "a")]}, {"counts": [("a", 2), ("e", 0)]}, {"spots": [("al", "c")]}):
            self.same(shows(world, make_picture(**told)), True)

    def test_as_told(self):
        for world in some_worlds(40, seed=111):
            self.same(shows(world, picture_of(world)), True)
            for picture in some_pictures(world, 20):
                self.same(shows(world, picture), told_in(world, picture))

    def test_errors(self):
        for told, error in WRONG:
            self.fails(error, shows, sample_world(), make_picture(**told))
        untrue = {"heads": [("u", "a"), ("v", "c")], "counts": [("a", 7)], "spots": [("al", "f")]}
        self.fails(BadEnd("v", "c"), shows, sample_world(), make_picture(**untrue))
        self.fails(Unknown("place", "zz"), shows, sample_world(), make_picture(**{**untrue, "spots": [("al", "zz")]}))


class Joining(Case):
    def test_joint(self):
        one = make_picture(heads=[("u", "a"), ("w", "b")], counts=[("a", 1)])
        two = make_picture(heads=[("u", "a"), ("v", "b")], counts=[("b", 1)], spots=[("al", "a")])
        joint = ((("u", "a"), ("v", "b"), ("w", "b")), (("a", 1), ("b", 1)), (("al", "a"),))
        self.same(join_pictures(one, two), joint)
        self.same(join_pictures(other=one, one=two), joint)
        self.same((join_pictures(one, EMPTY), join_pictures(EMPTY, two)), (one, two))
        self.same(join_pictures(EMPTY, EMPTY), EMPTY)

    def test_contradictions(self):
        one = make_picture(heads=[("u", "a")], counts=[("a", 1)], spots=[("al", "a")])
        for told in ({"heads": [("t", "a"), ("u", "b")]}, {"counts": [("a", 2)]}, {"spots": [("al", "b")]}):
            self.same(join_pictures(one, make_picture(**told)), None)
            self.same(join_pictures(make_picture(**told), one), None)
        mixed = make_picture(heads=[("a", "u")], counts=[("al", 1)], spots=[("u", "a"), ("a", "u")])
        self.same(join_pictures(one, mixed)[2], (("a", "u"), ("al", "a"), ("u", "a")))


class Bars(Case):
    def test_every_tuple(self):
        kinds = set()
        for at, world in enumerate(some_worlds(25, seed=112, places=3, ways=5, walkers=4)):
            found = class_of(world)
            for picture in some_pictures(world, 12, seed=at):
                judged = [bar for bar in bars_of(world) if is_bar(world, picture, bar)]
                self.same(judged, [bar for bar in bars_of(world) if holds(world, picture, bar)])
                self.same(judged == [], any(told_in(end, picture) for end in found))
                kinds.update(bar[0] for bar in judged)
        self.assertEqual(kinds, {"still", "name", "crowd", "asks", "holds"})

    def test_places_outside_of_the_shore(self):
        web = make_web(["a", "b", "c"], [("u", "a", "b"), ("v", "b", "c")])
        world = make_world(web, heads=[("v", "b")], alike=[("b", 1)])
        picture = make_picture(counts=[("a", 1), ("b", 0), ("c", 0)])
        self.same(is_bar(world, picture, ("asks", ("a",), ("b",))), True)
        self.same(is_bar(world, picture, ("holds", ("b",), ("b",))), True)
        self.same(is_bar(world, picture, ("holds", ("b", "c"), ("b",))), True)
        self.same(is_bar(world, picture, ("holds", ("c",), ("b",))), False)
        self.same(is_bar(world, picture, ("asks", ("a", "b"), ("b",))), False)
        self.same(is_bar(world, make_picture(counts=[("a", 1)]), ("holds", ("b",), ("b",))), False)
        names = make_world(world[0], heads=[("v", "b")], named=[("al", "b"), ("bo", "b")])
        crowd = make_picture(counts=[("c", 1)], spots=[("al", "c"), ("bo", "c")])
        self.same([bar for bar in product(("crowd",), "abc") if is_bar(names, crowd, bar)], [("crowd", "c")])

    def test_empty_tuple_of_places(self):
        for world in some_worlds(10, seed=113):
            for picture in some_pictures(world, 10):
                for kind, shore in product(("asks", "holds"), subsets(world[0][0])):
                    self.same(is_bar(world, picture, (kind, (), shore)), False)

    def test_shore_of_the_bar_counts(self):
        web = make_web(["a", "b", "c"], [("u", "a", "b"), ("v", "b", "c")])
        world = make_world(web, heads=[("u", "b"), ("v", "c")], alike=[("b", 1)])
        picture = make_picture(heads=[("u", "a")])
        judged = [part for part in subsets(web[0]) if is_bar(world, picture, ("still", "u", part))]
        self.same(judged, [("b", "c")])
        asks = make_picture(counts=[("a", 1)])
        judged = [part for part in subsets(web[0]) if is_bar(world, asks, ("asks", ("a",), part))]
        self.same(judged, [("b", "c"), ("a", "b", "c")])

    def test_other_values(self):
        world = two_ways(alike=[("b", 1)], named=[("al", "b")])
        picture = make_picture(heads=[("u", "a")], counts=[("a", 0), ("b", 0)], spots=[("al", "b")])
        self.same(is_bar(world, picture, ("crowd", "b")), True)
        self.same(is_bar(bar=("holds", ("b",), ("b",)), picture=picture, world=world), True)
        values = [
            *ODD_VALUES, (), "crowd", ("crowd",), ("crowd", "a"), ["crowd", "b"], ("crowd", ["b"]), ("crowd", ("b",)),
            ("crowd", "zz"), ("crowd", None), ("crowd", True), ("crowd", 0), ("crowd", "b", ()), ("crowd", "b", ("b",)),
            ("crowds", "b"), (None, "b"), (True, "b"), (("crowd",), "b"), (["crowd"], "b"), ("holds", ("b",)),
            ["holds", ("b",), ("b",)], ("holds", ["b"], ("b",)), ("holds", ("b",), ["b"]), ("holds", ("b",), ()),
            ("holds", ("b",), ("a",)), ("holds", ("b", "b"), ("b",)), ("holds", ("b", "a"), ("b",)),
            ("holds", ("b",), ("b",), ()), ("holds", "b", "b"), ("holds", None, ("b",)), ("holds", ("zz",), ("b",)),
            ("holds", ("b", None), ("b",)), ("holds", (("b",),), ("b",)), ("holds", ("b",), ("b", True)),
            ("asks", ("b",), ("b",)), ("asks", ["b"], ("b",)), ("asks", (), ()), ("asks", ("a",), True),
            ("asks", True, ("b",)), ("still", "zz", ("b",)), ("still", None, ("b",)), ("still", ["u"], ("b",)),
            ("still", ("u",), ("b",)), ("still", "u", ["b"]), ("still", "u", None), ("still", True, ("b",)),
            ("still", "v", ("b",)), ("still", "u", ("a", "b")), ("still", "u"), ("still", "u", ("b",), ("b",)),
            ("name", "al", ("b",)), ("name", "al", ("b",), ("b",)), ("name", "zz", ("b",), ("b",)),
            ("name", "b", ("b",), ("b",)), ("name", None, ("b",), ("b",)), ("name", ["al"], ("b",), ("b",)),
            ("name", True, ("b",), ("b",)), ("name", "al", None, ("b",)), ("name", "al", ("b",), None),
            ("name", "al", ["b"], ["b"]), ("name", "al", ("b",), ("b",), ()), ("name",), ("asks",), ("holds",),
        ]
        self.judges(lambda value: is_bar(world, picture, value), values, False)
        self.same(is_bar(world, picture, ("still", "u", ("b",))), True)

    def test_other_words(self):
        world = two_ways(heads=[("u", "b"), ("v", "b")], alike=[("b", 1)], named=[("al", "b")])
        picture = make_picture(heads=[("u", "a")], counts=[("a", 3), ("b", 0)], spots=[("al", "b")])
        cases = [("crowd", "b"), ("still", "u", ("b",)), ("asks", ("a",), ("b",)), ("holds", ("b",), ("b",))]
        for bar in cases:
            self.same(is_bar(world, picture, bar), True)
            for word in ("", "due", "name", "crowd", "still", "asks", "holds", None, True, 0, (), ["asks"], []):
                self.same(is_bar(world, picture, (word, *bar[1:])), word == bar[0])

    def test_each_condition_of_a_name_alone(self):
        web = make_web(["a", "b", "c", "d"], [("u", "a", "b"), ("v", "c", "d")])
        world = make_world(web, alike=[("c", 1)], named=[("al", "a"), ("bo", "c")])
        picture = make_picture(spots=[("al", "c")])
        every = ("a", "b", "c", "d")
        self.same(is_bar(world, picture, ("name", "al", every, ("a", "b"))), True)
        wrong = [
            ("bo", every, ("c", "d")), ("al", ("a", "b"), ("a", "b")), ("al", every, ("a",)), ("al", every, ("b",)),
            ("al", every, every), ("al", every, ("c", "d")), ("al", every, ("b", "a")), ("al", every, ()),
            ("al", ("a", "b", "c"), ("a", "b")), ("al", every, ("a", "b", "zz")), ("al", every, ("a", "b", "d")),
        ]
        for name, shore, side in wrong:
            self.same(is_bar(world, picture, ("name", name, shore, side)), False)
        self.same(is_bar(world, make_picture(spots=[("al", "b")]), ("name", "al", every, ("a", "b"))), False)

    def test_errors_whatever_the_value_is(self):
        for value in (None, True, [], (), ("crowd", "a"), "zz", ("asks", (), ())):
            for told, error in WRONG:
                self.fails(error, is_bar, sample_world(), make_picture(**told), value)
