"""What several tests use: exact comparison, exact errors, sample worlds."""

import random
import unittest
from itertools import combinations, product

from turnbehind.deeds import go, moves
from turnbehind.errors import TurnError
from turnbehind.reaches import live_ways
from turnbehind.worlds import make_web, make_world, names_of, rename_world


class Case(unittest.TestCase):
    """A test case that tells True from 1 and a list from a tuple."""

    def same(self, value, wanted):
        """The two plain values have the same shape and the same items, of Python's own kinds."""
        self.assertEqual(repr(value), repr(wanted))
        self.plain(value)

    def plain(self, value):
        """The value is of Python's own kinds, throughout."""
        self.assertIn(type(value), (type(None), bool, int, str, tuple, list, dict))
        if type(value) in (tuple, list):
            for item in value:
                self.plain(item)

    def fails(self, wanted, call, *args, **named):
        """The call raises an error of exactly this class, with exactly these attributes."""
        with self.assertRaises(TurnError) as caught:
            call(*args, **named)
        error = caught.exception
        self.assertIs(type(error), type(wanted))
        self.assertIsInstance(error, ValueError)
        self.same(vars(error), vars(wanted))

    def judges(self, judge, values, wanted):
        """The judge returns exactly this for each of the values."""
        for value in values:
            with self.subTest(value=value):
                self.assertIs(judge(value), wanted)


# Values of many kinds that are no tuple of deeds, of places and the like.
ODD_VALUES = [
    None, True, False, 0, 1, -1, 10 ** 19, "", "a", "aaaa", [], [[]], ["a"], [("u", None)], ("u", None), (("u",),),
    (("u", None, None),), ((),), (None,), (True,), (0,), (1, 2), ("zz",), ("",), (("a",),), (["a"],), (["u", None],),
    ((None, "u"),), (("u", True),), (("u", 0),), (("u", ""),), (("zz", None),), (("u", "zz"),), ((True, None),),
    (((("u",), None),),), (([], None),), ((["u"], None),), (("u", ["bo"]),), (((((("a",),),),),),), ("u", "u"),
    ("A",), ((0, 0),), (("u", ()),), [[[[[["a"]]]]]],
]


def two_ways(**told):
    """A world over the places a, b and the ways u, v between them."""
    return make_world(make_web(["a", "b"], [("u", "a", "b"), ("v", "a", "b")]), **told)


def sample_world():
    """A world with a live part, a still part, alike and named walkers, and two regions."""
    web = make_web(
        ["a", "b", "c", "d", "e", "f"],
        [("u", "a", "b"), ("v", "b", "a"), ("w", "b", "c"), ("x", "d", "e"), ("y", "f", "a"), ("z", "f", "d")],
    )
    return make_world(
        web,
        heads=[("u", "b"), ("v", "a"), ("w", "c"), ("x", "e"), ("y", "a"), ("z", "d")],
        alike=[("a", 1), ("d", 1)],
        named=[("bo", "a"), ("al", "c"), ("cy", "d")],
    )


def some_worlds(count, *, seed=1, places=5, ways=7, walkers=4):
    """So many different worlds, the same ones in each run."""
    chance = random.Random(seed)
    found = []
    for _ in range(count):
        spots = [f"p{k}" for k in range(chance.randint(2, places))]
        rows = [(f"w{k}", *chance.sample(spots, 2)) for k in range(chance.randint(0, ways))]
        crowd = chance.randint(0, walkers)
        many_named = chance.randint(0, crowd)
        numbers = {}
        for _ in range(crowd - many_named):
            spot = chance.choice(spots)
            numbers[spot] = numbers.get(spot, 0) + 1
        world = make_world(
            make_web(spots, rows),
            heads=[(way, chance.choice((one, other))) for way, one, other in rows],
            alike=list(numbers.items()),
            named=[(f"n{k}", chance.choice(spots)) for k in range(many_named)],
        )
        found.append(world)
    return found


def apart(world):
    """The world with other names throughout."""
    return rename_world(
        world,
        places=[(place, "q" + place) for place in world[0][0]],
        ways=[(row[0], "q" + row[0]) for row in world[0][1]],
        walkers=[(name, "q" + name) for name in names_of(world)],
    )


def distances(world):
    """A dict from each world that histories lead to to the fewest deeds, found by trying every deed."""
    found = {world: 0}
    line = [world]
    for now in line:
        for way, walker in moves(now):
            after = go(now, way, walker)
            if after not in found:
                found[after] = found[now] + 1
                line.append(after)
    return found


def class_of(world):
    """All worlds that histories lead to."""
    return list(distances(world))


def subsets(items):
    """All ascending tuples of some of the items, which ascend."""
    return [part for size in range(len(items) + 1) for part in combinations(items, size)]


def every_world(web, alike=0, names=()):
    """All worlds over the web with so many alike walkers and with these names."""
    found = []
    for heads in product(*[row[1:] for row in web[1]]):
        for numbers in product(range(alike + 1), repeat=len(web[0])):
            for spots in product(web[0], repeat=len(names)):
                if sum(numbers) == alike:
                    found.append(make_world(
                        web, heads=[(row[0], head) for row, head in zip(web[1], heads)],
                        alike=list(zip(web[0], numbers)), named=list(zip(names, spots)),
                    ))
    return found


def largest_worlds(count, *, seed=1, named=None, live=None):
    """So many worlds of 10 places, 14 ways and 8 walkers; so many of these named, and so many ways live, if told."""
    chance = random.Random(seed)
    found = []
    while len(found) < count:
        spots = [f"p{k}" for k in range(10)]
        rows = [(f"w{k:02d}", *chance.sample(spots, 2)) for k in range(14)]
        many = chance.randint(0, 8) if named is None else named
        numbers = {}
        for _ in range(8 - many):
            spot = chance.choice(spots)
            numbers[spot] = numbers.get(spot, 0) + 1
        world = make_world(
            make_web(spots, rows), heads=[(way, chance.choice(ends)) for way, *ends in rows],
            alike=list(numbers.items()), named=[(f"n{k}", chance.choice(spots)) for k in range(many)],
        )
        if live is None or len(live_ways(world)) == live:
            found.append(world)
    return found


def wander(world, count, seed=3):
    """A history of at most so many deeds, each any possible one."""
    chance = random.Random(seed)
    deeds = []
    for _ in range(count):
        choices = moves(world)
        if not choices:
            break
        deeds.append(chance.choice(choices))
        world = go(world, *deeds[-1])
    return tuple(deeds)


def some_pieces(count, *, seed=1, border=None, inner=3, ways=6, walkers=3):
    """So many pieces, with so many border places or any number of them, the same ones in each run."""
    chance = random.Random(seed)
    found = []
    for _ in range(count):
        many = border or chance.randint(1, 3)
        spots = [f"p{k}" for k in range(max(2, many + chance.randint(0, inner)))]
        edge = chance.sample(spots, many)
        insides = [place for place in spots if place not in edge]
        rows = [(f"w{k}", *chance.sample(spots, 2)) for k in range(chance.randint(0, ways))]
        numbers = {}
        for _ in range(chance.randint(0, walkers) if insides else 0):
            spot = chance.choice(insides)
            numbers[spot] = numbers.get(spot, 0) + 1
        world = make_world(
            make_web(spots, rows), heads=[(way, chance.choice((one, other))) for way, one, other in rows],
            alike=list(numbers.items()),
        )
        found.append((world, tuple(edge)))
    return found


def sized(count):
    """A world whose class has 40, 41, 100 or 101 worlds."""
    line = make_web(["a", "b", "c"], [("w0", "b", "c"), ("w1", "a", "b")])
    bow = make_web(["a", "b", "c"], [("w0", "b", "c"), ("w1", "b", "c"), ("w2", "a", "c")])
    pair = make_web(["a", "b"], [("w0", "a", "b"), ("w1", "a", "b")])
    near = {"n0": "c", "n1": "c", "n2": "c", "n3": "c"}
    told = {
        40: (line, ["b", "a"], {"b": 1}, near),
        41: (pair, ["a", "a"], {"b": 2}, {"n0": "a", "n1": "b", "n2": "b", "n3": "b"}),
        100: (bow, ["b", "b", "c"], {"b": 2, "c": 1}, {"n0": "c", "n1": "c", "n2": "a"}),
        101: (line, ["b", "a"], {"b": 2}, {"n0": "a", "n1": "a", "n2": "b", "n3": "c"}),
    }
    web, heads, numbers, named = told[count]
    told_heads = [(row[0], head) for row, head in zip(web[1], heads)]
    return make_world(web, heads=told_heads, alike=list(numbers.items()), named=list(named.items()))
