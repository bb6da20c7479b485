"""Points 66 to 68: carrying errands out, outcomes, partings."""

from tests.support import Case, class_of, sample_world, sized, some_worlds, two_ways, wander
from tests.test_errands import some_errands
from turnbehind.classes import count_class, members
from turnbehind.deeds import go
from turnbehind.errands import errand_of, read_errand, tidy
from turnbehind.errors import BadEnd, BadNumber, NoRun, TooLarge, Unknown
from turnbehind.histories import is_history, replay
from turnbehind.reaches import live_ways, road
from turnbehind.running import find_parting, outcome, run
from turnbehind.worlds import bag_at, head_of, make_web, make_world, names_of, place_of, tail_of

# A way from a to b, two from b to c, one from c to a; al stands at a, and so does bo; cy at c.
RING = make_world(
    make_web(["a", "b", "c", "d"],
             [("u", "a", "b"), ("v", "b", "c"), ("w", "b", "c"), ("x", "c", "a"), ("y", "c", "d")]),
    heads=[("u", "b"), ("v", "c"), ("w", "c"), ("x", "a"), ("y", "c")], named=[("al", "a"), ("bo", "a"), ("cy", "c")],
)
BAD_FUELS = (None, True, False, "", "24", -1, 61, 10 ** 19, -10 ** 19)


class Carrier:
    """Carries errands out, word by word as point 66 tells; refusals are told as values."""

    def __init__(self, world, fuel):
        self.world, self.fuel, self.deeds = world, fuel, []

    def walk(self, ways, name, at):
        if len(ways) > self.fuel:
            return (at, "no end")
        for way in ways:
            self.fuel -= 1
            self.world = go(self.world, way, name)
            self.deeds.append((way, name))
        return None

    def carry(self, errand, name, at=()):
        """None, or where and why the errand is refused."""
        kind, *more = errand
        here = place_of(self.world, name)
        if kind == "by":
            return self.walk(more, name, at) if tail_of(self.world, more[0]) == here else (at, "no way")
        if kind == "to":
            ways = road(self.world, here, more[0])
            return (at, "no road") if ways is None else self.walk(ways, name, at)
        if kind == "each":
            told = None
            for way in more[0]:
                if told is None and tail_of(self.world, way) == place_of(self.world, name):
                    told = self.walk([way], name, at)
            return told
        if kind == "seq":
            for index, part in enumerate(more[0]):
                told = self.carry(part, name, at + (index,))
                if told is not None:
                    return told
            return None
        if kind == "as":
            return self.carry(more[1], more[0], at + (0,))
        told = None
        while told is None and self.again(errand, name):
            if self.fuel == 0:
                return (at, "no end")
            self.fuel -= 1
            told = self.carry(more[-1], name, at + (0,))
        return told

    def again(self, errand, name):
        """True if one more repetition is due."""
        if errand[0] == "while":
            return head_of(self.world, errand[1]) == errand[2]
        return len(bag_at(self.world, place_of(self.world, name)).named) + bag_at(
            self.world, place_of(self.world, name)).alike < 2


def cases(count, seed, deep=3):
    """So many errands in worlds, each with an acting walker, the same ones in each run."""
    found = []
    for at, world in enumerate(some_worlds(400, seed=seed, places=4, ways=6, walkers=4)):
        if not names_of(world) or not world[1]:
            continue
        ways = [row[0] for row in world[0][1]]
        for errand in some_errands(4, ways=ways, places=world[0][0], names=names_of(world), seed=at, deep=deep):
            right = all(place in dict((row[0], row[1:]) for row in world[0][1])[way] for way, place in whiles(errand))
            if right:
                found.append((errand, world, names_of(world)[-1]))
    return found[:count]


def whiles(errand):
    """The ways and places of each while in the errand."""
    if errand[0] == "while":
        return [errand[1:3], *whiles(errand[3])]
    if errand[0] == "seq":
        return [pair for part in errand[1] for pair in whiles(part)]
    return whiles(errand[-1]) if errand[0] in ("until", "as") else []


class Running(Case):
    def test_word_by_word(self):
        causes = {}
        for errand, world, walker in cases(500, 411):
            for fuel in (0, 3, 24):
                carrier = Carrier(world, fuel)
                refused = carrier.carry(errand, walker)
                if refused is None:
                    self.same(run(errand, world, walker, fuel=fuel), (carrier.world, tuple(carrier.deeds)))
                    self.same(outcome(errand, world, walker, fuel=fuel), ("ends", carrier.world))
                    self.same(is_history(world, tuple(carrier.deeds), carrier.world), True)
                else:
                    self.fails(NoRun(*refused), run, errand, world, walker, fuel=fuel)
                    self.same(outcome(errand, world, walker, fuel=fuel), ("refused", refused[1]))
                cause = refused and refused[1]
                causes[cause] = causes.get(cause, 0) + 1
        self.assertEqual(set(causes), {None, "no way", "no road", "no end"})
        self.assertGreater(min(causes.values()), 20)

    def test_tidied_errand(self):
        for errand, world, walker in cases(300, 412, deep=5):
            for fuel in (2, 24):
                self.same(outcome(tidy(errand), world, walker, fuel=fuel), outcome(errand, world, walker, fuel=fuel))

    def test_each_kind(self):
        for text, walker, deeds in (
            ("by u", "al", "u"), ("( )", "al", ""), ("( by u ; by v )", "al", "u v"), ("to c", "al", "u v"),
            ("to a", "al", ""), ("to d", "al", None), ("by v", "al", None), ("each v u w v x", "al", "u w x"),
            ("each v w y", "al", ""), ("each u u u", "al", "u u u"), ("while u b by u", "al", "u"),
            ("while u a by u", "al", ""), ("until by x", "cy", "x"), ("until by u", "al", ""), ("until by u", "bo", ""),
            ("( by x ; until by u )", "cy", "x"), ("while w c each x u w", "cy", "x u w"), ("to c", "cy", ""),
            ("( by u ; by u ; by u )", "bo", "u u u"), ("each x u v", "cy", "x u v"),
        ):
            errand = read_errand(text)
            if deeds is None:
                self.assertIn(outcome(errand, RING, walker), (("refused", "no way"), ("refused", "no road")))
                continue
            history = tuple((way, walker) for way in deeds.split())
            self.same(run(errand, RING, walker), (replay(RING, history), history))
        self.same(run(fuel=3, walker="al", world=RING, errand=("by", "u")), (go(RING, "u", "al"), (("u", "al"),)))
        self.same(outcome(fuel=3, walker="al", world=RING, errand=("by", "u")), ("ends", go(RING, "u", "al")))

    def test_as_within_as(self):
        history = (("u", "bo"), ("x", "cy"), ("v", "bo"), ("u", "al"))
        for text in ("( as bo ( by u ; as cy by x ; by v ) )", "as cy as bo ( by u ; as cy by x ; by v )"):
            self.same(run(read_errand(text), RING, "al"), (replay(RING, history[:3]), history[:3]))
        self.fails(NoRun((1,), "no way"), run, read_errand("( as bo ( by u ; as cy by x ; by v ) ; by u )"), RING, "al")
        back = read_errand("( as bo ( by u ; by u ) ; by u ; as al by u )")
        told = (("u", "bo"), ("u", "bo"), ("u", "al"), ("u", "al"))
        self.same(run(back, RING, "al"), (RING, told))
        self.same(run(("as", "al", ("as", "bo", ("as", "al", ("by", "u")))), RING, "cy")[1], (("u", "al"),))
        self.same(run(("as", "bo", ("by", "u")), RING, "bo"), run(("by", "u"), RING, "bo"))

    def test_alike_walkers_count_for_until(self):
        world = two_ways(heads=[("v", "a")], alike=[("b", 1)], named=[("al", "a")])
        self.same(run(("until", ("by", "u")), world, "al")[1], (("u", "al"),))
        named = two_ways(heads=[("v", "a")], named=[("al", "a"), ("bo", "b")])
        self.same(run(("until", ("by", "u")), named, "al")[1], (("u", "al"),))
        alone = two_ways(heads=[("v", "a")], named=[("al", "a")])
        self.fails(NoRun((), "no end"), run, ("until", ("each", ("u", "v", "v"))), alone, "al")
        self.fails(NoRun((0,), "no way"), run, ("until", ("by", "u")), two_ways(named=[("al", "b")]), "al")

    def test_errand_of_deeds(self):
        for world in [sample_world(), *some_worlds(40, seed=413)]:
            errand = errand_of([deed for deed in wander(world, 30) if deed[1] is not None])
            if names_of(world):
                told = outcome(errand, world, names_of(world)[0], fuel=60)
                carrier = Carrier(world, 60)
                refused = carrier.carry(errand, names_of(world)[0])
                self.same(told, ("ends", carrier.world) if refused is None else ("refused", refused[1]))
        bare = make_world(RING[0], heads=list(zip("uvwxy", RING[1])), named=[("al", "a"), ("bo", "b")])
        deeds = wander(bare, 40)
        self.same(run(errand_of(deeds), bare, "al", fuel=40), (replay(bare, deeds), deeds))

    def test_deep_errands(self):
        alone = two_ways(heads=[("v", "a")], named=[("al", "a")])
        self.fails(NoRun((0,) * 60, "no end"), run, read_errand("until " * 78 + "by u"), alone, "al", fuel=60)
        self.same(run(read_errand("as al " * 39 + "by u"), alone, "al")[1], (("u", "al"),))
        self.same(run(read_errand("( " * 39 + "by u" + " )" * 39), alone, "al")[1], (("u", "al"),))
        self.fails(NoRun((0,) * 39, "no way"), run, read_errand("( " * 39 + "by v" + " )" * 39), alone, "al")


class Fuel(Case):
    def test_just_enough_and_one_too_little(self):
        for text, walker, units in (
            ("by u", "al", 1), ("to c", "al", 2), ("to a", "al", 0), ("( )", "al", 0), ("each v w y", "al", 0),
            ("each v u w v x", "al", 3), ("while u b by u", "al", 2), ("while u a by u", "al", 0),
            ("until by u", "al", 0),
            ("until by x", "cy", 2), ("( by x ; to b ; by u )", "cy", 3), ("while w c each x u w", "cy", 4),
            ("( to c ; as cy to b )", "al", 3),
        ):
            errand = read_errand(text)
            history = run(errand, RING, walker, fuel=units)
            self.same(run(errand, RING, walker, fuel=60), history)
            if units > 0:
                self.same(outcome(errand, RING, walker, fuel=units - 1), ("refused", "no end"))

    def test_where_it_ends(self):
        for text, walker, fuel, at in (
            ("by u", "al", 0, ()), ("to c", "al", 1, ()), ("to c", "al", 0, ()), ("each v u w v x", "al", 2, ()),
            ("( by u ; each v x )", "al", 2, (1,)), ("while u b by u", "al", 0, ()), ("while u b by u", "al", 1, (0,)),
            ("until by x", "cy", 0, ()), ("until by x", "cy", 1, (0,)),
            ("( ( ) ; as bo ( by u ; by v ) )", "al", 1, (1, 0, 1)),
            ("as cy until while x a ( by x ; by x )", "al", 3, (0, 0, 0, 1)),
            ("as cy until while x a ( by x ; by x )", "al", 4, (0, 0)), ("while u b ( )", "al", 24, ()),
            ("while u b while v c ( )", "al", 5, (0,)), ("( while u b ( by u ; by u ) )", "al", 6, (0,)),
            ("( while u b ( by u ; by u ) )", "al", 7, (0, 0, 0)),
            ("( while u b ( by u ; by u ) )", "al", 8, (0, 0, 1)),
            ("as cy until each x x", "al", 1, (0, 0)), ("as cy until each x x", "al", 2, (0, 0)),
            ("as cy until each x x", "al", 3, (0,)), ("as cy until to c", "al", 1, (0,)),
        ):
            self.fails(NoRun(*self.told(text, walker, fuel, at)), run, read_errand(text), RING, walker, fuel=fuel)

    def told(self, text, walker, fuel, at):
        """Where and why it is refused, which the other way of carrying out tells, too."""
        carrier = Carrier(RING, fuel)
        self.same(carrier.carry(read_errand(text), walker), (at, "no end"))
        return (at, "no end")

    def test_the_usual_amount(self):
        alone = two_ways(heads=[("v", "a")], named=[("al", "a")])
        errand = ("seq", (("by", "u"),) * 24)
        self.same(len(run(errand, alone, "al")[1]), 24)
        self.fails(NoRun((24,), "no end"), run, ("seq", (("by", "u"),) * 25), alone, "al")
        self.same(run(("each", ("u",) * 60), alone, "al", fuel=60)[0], alone)
        self.fails(NoRun((), "no end"), run, ("each", ("u",) * 61), alone, "al", fuel=60)
        self.same(outcome(("each", ("u",) * 25), alone, "al"), ("refused", "no end"))
        self.same(outcome(("each", ("u",) * 24), alone, "al"), ("ends", alone))
        least, *_ = members(alone)
        self.same(find_parting(("each", ("u",) * 24), ("each", ("u",) * 22), alone, "al"), None)
        self.same(find_parting(("each", ("u",) * 25), ("each", ("u",) * 23), alone, "al"), least)
        self.same(find_parting(("by", "u"), ("seq", ()), alone, "al", fuel=0), least)
        self.same(find_parting(("each", ("u", "v")), ("by", "u"), alone, "al", fuel=0), members(alone)[1])

    def test_no_end_with_another_cause(self):
        for text, fuel, at, cause in (
            ("by v", 0, (), "no way"), ("to d", 0, (), "no road"), ("( by u ; by u ; to d )", 2, (2,), "no road"),
            ("( by u ; by u ; by v )", 2, (2,), "no way"), ("( by u ; each u v ; by x )", 2, (2,), "no way"),
        ):
            self.fails(NoRun(at, cause), run, read_errand(text), RING, "al", fuel=fuel)
        # With no fuel for the first deed, the second one is not looked at.
        self.fails(NoRun((0,), "no end"), run, read_errand("( by u ; by u )"), RING, "al", fuel=0)

    def test_wrong_amounts(self):
        for fuel in BAD_FUELS:
            for errand in (("by", "u"), ("by", "zz"), ("seq", ()), ("while", "u", "d", ("seq", ()))):
                self.fails(BadNumber(fuel), run, errand, RING, "zz", fuel=fuel)
                self.fails(BadNumber(fuel), outcome, errand, RING, "al", fuel=fuel)
                self.fails(BadNumber(fuel), find_parting, errand, errand, RING, "al", fuel=fuel)
        for call in (run, outcome):
            self.assertRaises(TypeError, call, ("by", "u"), RING, "al", 24)


class Names(Case):
    WRONG = [
        ("by zz", Unknown("way", "zz")), ("to zz", Unknown("place", "zz")), ("as zz by yy", Unknown("walker", "zz")),
        ("as al by yy", Unknown("way", "yy")), ("while zz yy by xx", Unknown("way", "zz")),
        ("while u yy by xx", Unknown("place", "yy")), ("while u d by xx", Unknown("way", "xx")),
        ("until until to zz", Unknown("place", "zz")), ("each u v zz yy", Unknown("way", "zz")),
        ("( by v ; to zz )", Unknown("place", "zz")), ("( while u a by zz ; by yy )", Unknown("way", "zz")),
        ("( while u d ( ) ; as zz to yy )", Unknown("walker", "zz")), ("as a ( )", Unknown("walker", "a")),
        ("by a", Unknown("way", "a")), ("to u", Unknown("place", "u")),
        ("( ( ( ) ; ( by u ; by zz ) ) )", Unknown("way", "zz")),
    ]
    ENDS = [
        ("while u d ( )", BadEnd("u", "d")), ("( while y d by y ; while x b ( ) ; while u d ( ) )", BadEnd("x", "b")),
        ("while u b while x b while u d ( )", BadEnd("x", "b")), ("while u a while u d ( )", BadEnd("u", "d")),
        ("( by v ; as bo until while w a to d )", BadEnd("w", "a")),
    ]

    def test_unknown(self):
        for call in (run, outcome):
            for text, error in self.WRONG:
                for walker in ("al", "zz"):
                    self.fails(error, call, read_errand(text), RING, walker)
            for text in ("by u", "( )", "while u d ( )", "to d"):
                for walker in ("zz", "a", ""):
                    self.fails(Unknown("walker", walker), call, read_errand(text), RING, walker, fuel=0)
            for text, error in self.ENDS:
                self.fails(error, call, read_errand(text), RING, "al")

    def test_any_texts(self):
        for text in ("", "A b", "( )", "no way", "abcdefghijk"):
            self.fails(Unknown("way", text), run, ("by", text), RING, "al")
            self.fails(Unknown("place", text), run, ("seq", (("by", "u"), ("to", text))), RING, "al")
            self.fails(Unknown("way", text), run, ("each", ("u", text)), RING, "al")
            self.fails(Unknown("walker", text), run, ("as", text, ("seq", ())), RING, "al")
            self.fails(Unknown("place", text), run, ("while", "u", text, ("seq", ())), RING, "al")
            self.fails(Unknown("walker", text), run, ("seq", ()), RING, text)

    def test_parting_looks_at_one_and_then_at_the_other(self):
        nine = make_world(make_web(["a", "b", "c", "d"], [*RING[0][1], *[(f"z{k}", "a", "b") for k in range(5)]]),
                          named=[("al", "a"), ("bo", "a"), ("cy", "a")])
        self.assertGreater(len(live_ways(nine)), 8)
        for world in (RING, nine):
            for text, error in self.WRONG:
                one = read_errand(text)
                self.fails(error, find_parting, one, ("by", "qq"), world, "zz")
                self.fails(error, find_parting, ("while", "u", "d", ("by", "u")), one, world, "zz")
            for text, error in self.ENDS:
                one = read_errand(text)
                self.fails(Unknown("walker", "zz"), find_parting, one, one, world, "zz")
                self.fails(error, find_parting, one, ("while", "w", "d", ("seq", ())), world, "al")
                self.fails(error, find_parting, ("seq", ()), one, world, "al")
                self.fails(Unknown("place", "zz"), find_parting, one, ("to", "zz"), world, "al")
        self.fails(TooLarge("live", len(live_ways(nine))), find_parting, ("by", "u"), ("by", "u"), nine, "al")


def sheaf(many, more=0):
    """A world of so many live ways from a to b, with al at a and so many more walkers there."""
    rows = [(f"w{k}", "a", "b") for k in range(many)]
    return make_world(make_web(["a", "b"], rows), alike=[("a", more)], named=[("al", "a")])


class Partings(Case):
    def test_first_world_in_class_order(self):
        found = []
        for errand, world, walker in cases(250, 414):
            if count_class(world) > 40:
                continue
            other = some_errands(1, ways=[row[0] for row in world[0][1]], places=world[0][0], names=names_of(world),
                                 seed=len(found), deep=1)[0]
            if any(place not in dict((row[0], row[1:]) for row in world[0][1])[way] for way, place in whiles(other)):
                continue
            for fuel in (1, 24):
                parted = [end for end in members(world) if outcome(errand, end, walker, fuel=fuel)
                          != outcome(other, end, walker, fuel=fuel)]
                wanted = parted[0] if parted else None
                self.same(find_parting(errand, other, world, walker, fuel=fuel), wanted)
                found.append(wanted)
        self.assertGreater(len([one for one in found if one is None]), 5)
        self.assertGreater(len([one for one in found if one is not None]), 50)

    def test_tidied_errands_never_part(self):
        for errand, world, walker in cases(150, 415, deep=5):
            if count_class(world) <= 40:
                self.same(find_parting(errand, tidy(errand), world, walker), None)

    def test_fuel_and_cause(self):
        world = two_ways(heads=[("v", "a")], named=[("al", "a")])
        there = read_errand("by u")
        again = read_errand("( by u ; by u ; by u )")
        self.same(find_parting(there, again, world, "al"), None)
        self.same(find_parting(fuel=2, walker="al", world=world, other=again, one=there), members(world)[0])
        self.same(find_parting(there, ("to", "b"), world, "al"), members(world)[0])
        self.same(find_parting(("by", "u"), ("by", "v"), world, "al"), members(world)[0])
        self.same(outcome(("to", "b"), members(world)[0], "al"), ("ends", members(world)[0]))

    def test_classes_of_40_and_41_worlds(self):
        full, more = sized(40), sized(41)
        self.same((len(class_of(full)), len(class_of(more))), (40, 41))
        self.same(find_parting(("by", "w0"), ("seq", (("by", "w0"),)), full, "n0"), None)
        self.fails(TooLarge("class", 41), find_parting, ("by", "w0"), ("by", "w0"), more, "n0")

    def test_eight_and_nine_live_ways(self):
        self.same((len(live_ways(sheaf(8))), len(live_ways(sheaf(9)))), (8, 9))
        self.same(find_parting(("by", "w0"), ("by", "w0"), sheaf(8), "al"), None)
        self.fails(TooLarge("live", 9), find_parting, ("by", "w0"), ("by", "w1"), sheaf(9), "al")
        self.fails(TooLarge("live", 9), find_parting, ("by", "w0"), ("by", "w1"), sheaf(9, more=2), "al")
        size = count_class(sheaf(8, more=2))
        self.assertGreater(size, 40)
        self.fails(TooLarge("class", size), find_parting, ("by", "w0"), ("by", "w1"), sheaf(8, more=2), "al")
