"""Points 51 to 53 and 58: pieces, loads, closures, shifts, behaviours, lifting and trimming."""

from itertools import permutations, product

from tests.support import Case, some_pieces, subsets, two_ways
from turnbehind.borders import are_alike, behaviour, closure, lift_way, load, make_piece, shifts, trim
from turnbehind.errors import BadNumber, BadSize, Named, Occupied, Repeated, Unknown, Unlike
from turnbehind.reaches import can_come, due
from turnbehind.worlds import bag_at, make_web, make_world, tail_of

# Border places e, b; inner places a, c, d. A walker stands at c.
WEB = make_web(["a", "b", "c", "d", "e"], [("u", "c", "b"), ("v", "b", "d"), ("w", "e", "a"), ("x", "a", "d")])
WORLD = make_world(WEB, heads=[("u", "b"), ("v", "d"), ("w", "a"), ("x", "a")], alike=[("c", 1)])
PIECE = (WORLD, ("e", "b"))


def sources_of(piece, lit):
    """The places from which walkers may set out, as point 52 tells."""
    world, border = piece
    return [border[number] for number in lit] + [
        place for place in world[0][0] if place not in border and bag_at(world, place).many > 0]


def come(piece, lit):
    """The places that can be come to from a source."""
    world = piece[0]
    return {place for place in world[0][0] for spot in sources_of(piece, lit) if can_come(world, spot, place)}


def told_shifts(piece, lit):
    """All shifts, word by word as point 52 tells."""
    world, border = piece
    within = come(piece, lit)
    found = set()
    for tails in product(*[row[1:] for row in world[0][1]]):
        fixed = [tail == tail_of(world, row[0]) for row, tail in zip(world[0][1], tails) if not set(row[1:]) <= within]
        enough = [tails.count(place) >= due(world, place) for place in world[0][0] if place not in border]
        if all(fixed) and all(enough):
            found.add(tuple(tails.count(place) - number for place, number in zip(border, load(piece))))
    return tuple(sorted(found))


def told_trim(piece):
    """The trimmed piece, word by word as point 58 tells."""
    ways = [row[0] for row in piece[0][0][1]]
    good = [way for way in ways if are_alike(lift_way(piece, way), piece)]
    return told_trim(lift_way(piece, good[0])) if good else piece


class Making(Case):
    def test_border_in_its_order(self):
        for border in (("e", "b"), ("b", "e"), ("b",), ("d", "b", "e"), ("e", "d", "b")):
            self.same(make_piece(WORLD, border), (WORLD, border))
            self.same(make_piece(border=list(border), world=WORLD), (WORLD, border))

    def test_all_places_on_the_border(self):
        for count in (2, 3):
            world = make_world(make_web(["a", "b", "c"][:count], [("u", "a", "b")]))
            for border in permutations(world[0][0]):
                self.same(make_piece(world, border), (world, border))

    def test_arguments_stay(self):
        border = ["e", "b"]
        piece = make_piece(WORLD, border)
        border.append("d")
        self.same(piece, PIECE)
        lit = [1, 0]
        closure(piece, lit)
        shifts(piece, lit)
        self.same((lit, border), ([1, 0], ["e", "b", "d"]))

    def test_sizes(self):
        for border in ((), ("a", "b", "d", "e"), ("zz",) * 4, ("c",) * 40):
            self.fails(BadSize("border", len(border)), make_piece, WORLD, border)
        for many in (0, 1, 6):
            world = make_world(make_web(["a", "b"], [(f"w{k}", "a", "b") for k in range(many)]))
            self.same(make_piece(world, ["a"]), (world, ("a",)))
        seven = make_world(make_web(["a", "b"], [(f"w{k}", "a", "b") for k in range(7)]), alike=[("a", 1)])
        for border in (["a"], ["b"], ["zz"], ["b", "b"]):
            self.fails(BadSize("ways", 7), make_piece, seven, border)
        self.fails(BadSize("border", 0), make_piece, seven, [])

    def test_repeated_and_unknown(self):
        self.fails(Repeated("c"), make_piece, WORLD, ("zz", "c", "c"))
        self.fails(Repeated("zz"), make_piece, WORLD, ("zz", "zz"))
        self.fails(Unknown("place", "zz"), make_piece, WORLD, ("c", "zz", "yy"))
        self.fails(Unknown("place", "u"), make_piece, WORLD, ["b", "u"])
        self.fails(Unknown("place", ""), make_piece, WORLD, [""])

    def test_walkers_at_the_border(self):
        self.fails(Occupied("c"), make_piece, WORLD, ("b", "c"))
        many = make_world(WEB, alike=[("c", 1)], named=[("al", "b"), ("bo", "d")])
        self.fails(Occupied("d"), make_piece, many, ("a", "d", "b"))
        self.fails(Occupied("b"), make_piece, many, ("b", "d"))
        self.fails(Named(("al", "bo")), make_piece, many, ("a", "e"))
        self.fails(Unknown("place", "zz"), make_piece, many, ("b", "zz"))


class Parts(Case):
    def test_load(self):
        self.same((load(PIECE), load((WORLD, ("b", "e"))), load(piece=(WORLD, ("d", "a", "b")))),
                  ((1, 1), (1, 1), (1, 0, 1)))
        for piece in some_pieces(40, seed=201):
            tails = [tail_of(piece[0], row[0]) for row in piece[0][0][1]]
            self.same(load(piece), tuple(tails.count(place) for place in piece[1]))

    def test_closure(self):
        self.same((closure(PIECE, ()), closure(PIECE, [0]), closure(piece=PIECE, lit=(1, 0))), ((1,), (0, 1), (0, 1)))
        turned = (WORLD, ("b", "e"))
        self.same((closure(turned, ()), closure(turned, (1,))), ((0,), (0, 1)))
        for piece in some_pieces(60, seed=202):
            border = piece[1]
            for lit in subsets(range(len(border))):
                wanted = tuple(number for number, place in enumerate(border) if place in come(piece, lit))
                for order in permutations(lit):
                    self.same(closure(piece, order), wanted)
                self.assertLessEqual(set(lit), set(wanted))
                self.same(closure(piece, wanted), wanted)

    def test_lit_sets_that_are_wrong(self):
        one = make_piece(WORLD, ["b"])
        for call in (closure, shifts):
            for number in (None, True, False, "", "0", -1, 2, 10 ** 19, -10 ** 19):
                self.fails(BadNumber(number), call, PIECE, (0, number))
                self.fails(BadNumber(number), call, PIECE, [0, 0, number, None])
            self.fails(BadNumber(1), call, one, (0, 1))
            self.fails(Repeated(1), call, PIECE, (1, 0, 1, 0))
            self.fails(Repeated(0), call, PIECE, lit=[1, 0, 0, 1])
            self.fails(Repeated(0), call, one, (0,) * 40)


class Shifts(Case):
    def test_word_by_word(self):
        for piece in [PIECE, *some_pieces(80, seed=203)]:
            for lit in subsets(range(len(piece[1]))):
                found = shifts(piece, lit)
                self.same(found, told_shifts(piece, lit))
                self.assertIn((0,) * len(piece[1]), found)
                for order in permutations(lit):
                    self.same(shifts(piece, order), found)

    def test_one_way_between_border_places(self):
        piece = make_piece(make_world(make_web(["a", "b"], [("w", "a", "b")])), ["a", "b"])
        self.same(shifts(piece, ()), ((0, 0),))
        self.same(shifts(piece, [0]), ((-1, 1), (0, 0)))
        self.same(shifts(piece=piece, lit=[1]), ((0, 0),))
        self.same(shifts((piece[0], ("b", "a")), [1]), ((0, 0), (1, -1)))
        self.same(behaviour(piece), (((0, 0),), ((-1, 1), (0, 0)), ((0, 0),), ((-1, 1), (0, 0))))

    def test_below_nought_where_nothing_is_lit(self):
        # The walker at c can come to b, and the way v leads on from there.
        self.same(shifts(PIECE, ()), ((0, -1), (0, 0), (0, 1)))
        self.same(shifts(PIECE, (0,))[0], (-1, -1))
        self.same(shifts((WORLD, ("b", "e")), ()), ((-1, 0), (0, 0), (1, 0)))

    def test_full_lit_set_of_three(self):
        world = make_world(make_web(["a", "b", "c", "d"], [("u", "a", "d"), ("v", "b", "d"), ("w", "c", "d")]))
        piece = make_piece(world, ["c", "a", "b"])
        self.same(shifts(piece, ()), ((0, 0, 0),))
        self.same(shifts(piece, (1,)), ((0, -1, 0), (0, 0, 0)))
        self.same(shifts(piece, (2, 0, 1)), tuple(product((-1, 0), repeat=3)))

    def test_inner_places_keep_their_due(self):
        # Two ways point from the inner place, at which one walker stands: one of them at least has to stay.
        world = make_world(make_web(["a", "i"], [("u", "a", "i"), ("v", "a", "i")]),
                           heads=[("u", "a"), ("v", "a")], alike=[("i", 1)])
        piece = make_piece(world, ["a"])
        self.same((due(world, "i"), shifts(piece, ()), shifts(piece, [0])), (1, ((0,), (1,)), ((0,), (1,))))

    def test_behaviour_in_the_order_of_digits(self):
        for piece in some_pieces(30, seed=204):
            many = len(piece[1])
            found = behaviour(piece=piece)
            self.same(len(found), 2 ** many)
            for digits in range(2 ** many):
                lit = [number for number in range(many) if digits // 2 ** number % 2 == 1]
                self.same(found[digits], shifts(piece, lit))
                self.same(found[digits], shifts(piece, closure(piece, lit)))


class Alike(Case):
    def test_though_the_webs_are_not(self):
        one = make_piece(make_world(make_web(["a", "b"], [])), ["a", "b"])
        far = make_piece(make_world(make_web(["h", "k", "l"], [("z", "h", "l")])), ["k", "h"])
        self.same((one[0][0] == far[0][0], are_alike(one, far)), (False, False))
        shut = make_piece(make_world(make_web(["h", "k", "l"], [("z", "h", "l")]), heads=[("z", "h")]), ["k", "h"])
        self.same((are_alike(one, shut), are_alike(shut, one), are_alike(one=one, other=one)), (True, True, True))
        bent = make_piece(make_world(make_web(["a", "b", "c"], [("v", "a", "c"), ("w", "c", "b")]),
                                     heads=[("v", "c"), ("w", "b")]), ["a", "b"])
        self.same(are_alike(bent, make_piece(make_world(make_web(["a", "b"], [("w", "a", "b")])), ["a", "b"])), False)

    def test_order_of_the_border_counts(self):
        world = make_world(make_web(["a", "b"], [("w", "a", "b")]))
        self.same(are_alike((world, ("a", "b")), (world, ("b", "a"))), False)

    def test_as_behaviours_tell(self):
        pieces = some_pieces(40, seed=205, border=2, ways=3)
        judged = [are_alike(one, other) for one in pieces for other in pieces]
        self.same(judged, [behaviour(one) == behaviour(other) for one in pieces for other in pieces])
        self.assertGreater(len([one for one in judged if one]), len(pieces))

    def test_other_numbers_of_border_places(self):
        one, two = make_piece(two_ways(), ["a"]), make_piece(two_ways(), ["a", "b"])
        self.fails(Unlike("border"), are_alike, one, two)
        self.fails(Unlike("border"), are_alike, other=one, one=two)
        self.fails(Unlike("border"), are_alike, (WORLD, ("b", "d", "e")), PIECE)


class Lifting(Case):
    def test_way_out_of_the_web(self):
        world, border = lift_way(PIECE, "v")
        self.same(world, make_world(make_web(WEB[0], [row for row in WEB[1] if row[0] != "v"]),
                                    heads=[("u", "b"), ("w", "a"), ("x", "a")], alike=[("c", 1)]))
        self.same((border, load((world, border)), due(world, "b"), due(world, "c")), (("e", "b"), (1, 0), 0, 0))
        for way in ("zz", "", "a"):
            self.fails(Unknown("way", way), lift_way, piece=PIECE, way=way)

    def test_none_one_and_all(self):
        bare = make_piece(make_world(make_web(["a", "b"], [("w", "a", "b")])), ["a", "b"])
        self.same(trim(bare), bare)
        web = make_web(["a", "b", "c"], [("u", "c", "b"), ("w", "a", "b")])
        still = make_piece(make_world(web, heads=[("u", "b")]), ["a", "b"])
        self.same(trim(piece=still), lift_way(still, "u"))
        web = make_web(["a", "b", "c", "d"], [(f"w{k}", *"acbdcd"[k % 3 * 2:][:2]) for k in range(6)])
        shut = make_piece(make_world(web, heads=[(row[0], row[1]) for row in web[1]]), ["a", "b"])
        self.same(trim(shut), (make_world(make_web(web[0], [])), ("a", "b")))
        empty = make_piece(make_world(make_web(["a", "b"], [])), ["a"])
        self.same(trim(empty), empty)

    def test_first_way_of_those_that_can_be_lifted(self):
        world = make_world(make_web(["a", "i", "j"], [("u", "a", "i"), ("v", "a", "j"), ("w", "i", "j")]),
                           heads=[("u", "a"), ("v", "a"), ("w", "j")])
        piece = make_piece(world, ["a"])
        ways = [way for way in ("u", "v", "w") if are_alike(lift_way(piece, way), piece)]
        self.assertIn("u", ways)
        self.same(trim(piece), told_trim(piece))

    def test_word_by_word(self):
        lifted = set()
        for piece in some_pieces(60, seed=206):
            found = trim(piece)
            self.same(found, told_trim(piece))
            self.same((are_alike(found, piece), trim(found)), (True, found))
            lifted.add(len(piece[0][0][1]) - len(found[0][0][1]))
        self.assertLessEqual({0, 1, 2}, lifted)

    def test_largest_pieces(self):
        for piece in some_pieces(12, seed=207, border=3, inner=6, walkers=8):
            self.same(are_alike(trim(piece), piece), True)
