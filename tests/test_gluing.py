"""Points 54 to 57: glued worlds, views, guest rows and tellings."""

from itertools import product

from tests.support import ODD_VALUES, Case, class_of, some_pieces, subsets, two_ways
from tests.test_borders import PIECE
from turnbehind.borders import are_alike, closure, load, make_piece, shifts, trim
from turnbehind.classes import count_class
from turnbehind.errors import BadNumber, BadSize, TooLarge, Unlike
from turnbehind.gluing import find_telling, glue, guest_rows, is_telling, views
from turnbehind.reaches import due, live_ways, reach
from turnbehind.worlds import bag_at, head_of, is_world, make_web, make_world

BAD_NUMBERS = (None, True, False, "", "1", -1, 10 ** 19, -10 ** 19)


def sheaf_piece(ways, *, inner=1, walkers=0, border=1):
    """A piece of such numbers of border places and inner places, with ways from the first ones to each other."""
    edge = [f"e{k}" for k in range(border)]
    spots = [*edge, *[f"i{k}" for k in range(inner)]]
    rows = [(f"w{k}", spots[0], spots[-1]) for k in range(ways)]
    alike = [("i0", walkers)] if inner else []
    return make_piece(make_world(make_web(spots, rows), heads=[(row[0], spots[-1]) for row in rows], alike=alike), edge)


def told_names(piece, letter):
    """The new names of the places of a piece, word by word as point 54 tells."""
    inner = [place for place in piece[0][0][0] if place not in piece[1]]
    names = {place: letter + str(number) for number, place in enumerate(inner)}
    return {**names, **{place: "b" + str(number) for number, place in enumerate(piece[1])}}


def told_glue(first, second, guests):
    """The glued world, word by word as point 54 tells."""
    places, ways, heads, alike = {}, [], [], []
    for piece, letter in ((first, "f"), (second, "s")):
        names = told_names(piece, letter)
        places.update(dict.fromkeys(names.values()))
        for number, (way, low, high) in enumerate(piece[0][0][1]):
            ways.append((letter + str(number), names[low], names[high]))
            heads.append((letter + str(number), names[head_of(piece[0], way)]))
        inner = [place for place in names if place not in piece[1]]
        alike.extend((names[place], bag_at(piece[0], place).many) for place in inner)
    alike.extend((f"b{number}", many) for number, many in enumerate(guests))
    return make_world(make_web(sorted(places), ways), heads=heads, alike=alike)


def told_views(first, second, guests):
    """The views, by a search through the whole class of the glued world."""
    old = {new: place for place, new in told_names(second, "s").items()}
    found = set()
    for end in class_of(glue(first, second, guests)):
        heads = [old[head_of(end, f"s{number}")] for number in range(len(second[0][0][1]))]
        found.add((tuple(heads), tuple(bag_at(end, f"b{number}").many for number in range(len(first[1])))))
    return sorted(found)


def small(pieces):
    """The pieces that have at most four ways and one walker, so that any two of them can be glued."""
    return [piece for piece in pieces
            if len(piece[0][0][1]) <= 4 and sum(pair[0] for pair in piece[0][2]) <= 1 and len(piece[0][0][0]) <= 5]


class Gluing(Case):
    def test_names(self):
        world = glue(PIECE, (PIECE[0], ("d", "a")), [1, 2])
        self.same(world[0][0], ("b0", "b1", "f0", "f1", "f2", "s0", "s1", "s2"))
        self.same(world[0][1], (
            ("f0", "b1", "f1"), ("f1", "b1", "f2"), ("f2", "b0", "f0"), ("f3", "f0", "f2"),
            ("s0", "s0", "s1"), ("s1", "b0", "s0"), ("s2", "b1", "s2"), ("s3", "b0", "b1"),
        ))
        self.same(world[1], ("b1", "f2", "f0", "f0", "s0", "b0", "b1", "b1"))
        self.same([pair[0] for pair in world[2]], [1, 2, 0, 1, 0, 0, 1, 0])
        self.same(glue(guests=(1, 2), second=(PIECE[0], ("d", "a")), first=PIECE), world)

    def test_word_by_word(self):
        for many in (1, 2, 3):
            pieces = small(some_pieces(40, seed=210 + many, border=many))
            for first, second in zip(pieces, pieces[1:]):
                for guests in product((0, 1, 2), repeat=many):
                    world = glue(first, second, guests)
                    self.same(world, told_glue(first, second, guests))
                    self.assertTrue(is_world(world))
                    self.check_border(world, first, second, guests)

    def check_border(self, world, first, second, guests):
        """The dues of the border places, and which of them are in the reach."""
        for number, many in enumerate(guests):
            self.same(due(world, f"b{number}"), load(first)[number] + load(second)[number] - many)
        with_guests = {number for number, many in enumerate(guests) if many > 0}
        closed = [lit for lit in subsets(range(len(guests)))
                  if closure(first, lit) == lit == closure(second, lit) and with_guests <= set(lit)]
        least = min(closed, key=len)
        self.same([number for number in range(len(guests)) if f"b{number}" in reach(world)], list(least))
        for lit in closed:
            self.assertLessEqual(set(least), set(lit))

    def test_a_piece_to_itself(self):
        for piece in small(some_pieces(30, seed=214)):
            guests = [1] * len(piece[1])
            self.same(glue(piece, piece, guests), told_glue(piece, piece, guests))
            self.same(views(piece, piece, guests), told_views(piece, piece, guests))

    def test_arguments_stay(self):
        guests = [1, 0]
        glue(PIECE, PIECE, guests)
        views(PIECE, PIECE, guests)
        guest_rows(PIECE, guests)
        self.same((guests, len(views(PIECE, PIECE, guests))), ([1, 0], len(told_views(PIECE, PIECE, guests))))
        views(PIECE, PIECE, guests).append("more")
        guest_rows(PIECE, guests).append("more")
        self.same(views(PIECE, PIECE, guests), told_views(PIECE, PIECE, guests))

    def test_ten_and_eleven_places(self):
        four, five, six = [sheaf_piece(1, inner=inner) for inner in (4, 5, 6)]
        self.same(len(glue(four, five, [8])[0][0]), 10)
        self.same(glue(five, four, [8]), told_glue(five, four, [8]))
        self.fails(BadSize("places", 11), glue, five, five, [8])
        self.fails(BadSize("places", 13), views, six, six, [0])
        widest = sheaf_piece(6, inner=7, border=3)
        bare = make_piece(make_world(make_web(["a", "b", "c"], [])), ["a", "b", "c"])
        for first, second in ((widest, bare), (bare, widest)):
            self.same(glue(first, second, (0, 0, 0)), told_glue(first, second, (0, 0, 0)))

    def test_eight_and_nine_walkers(self):
        three = sheaf_piece(1, walkers=3)
        self.same(glue(three, three, (2,)), told_glue(three, three, (2,)))
        self.fails(BadSize("walkers", 9), glue, three, three, (3,))
        self.fails(BadSize("walkers", 14), views, three, three, (8,))
        none = sheaf_piece(1)
        for many in (0, 6, 7, 8):
            self.same(glue(none, none, [many]), told_glue(none, none, [many]))
        self.fails(BadNumber(9), glue, none, none, [9])

    def test_six_ways_each(self):
        one = sheaf_piece(6)
        self.same(len(glue(one, one, [1])[0][1]), 12)

    def test_wrong_guests(self):
        for call in (glue, views):
            for number in (*BAD_NUMBERS, 9):
                self.fails(BadNumber(number), call, PIECE, PIECE, [0, number])
                self.fails(BadNumber(number), call, PIECE, PIECE, (8, 8, 8, number, None))
            for guests in ((), (1,), (0, 0, 0), (8,) * 40):
                self.fails(BadSize("border", len(guests)), call, PIECE, PIECE, guests)
            self.fails(BadSize("border", 2), call, sheaf_piece(0), PIECE, (0, 0))

    def test_order_of_errors(self):
        one, two = sheaf_piece(1, inner=5, walkers=5), sheaf_piece(1, inner=5, walkers=5, border=2)
        for call in (glue, views):
            self.fails(BadNumber(9), call, one, two, (1, 9))
            self.fails(BadSize("border", 2), call, one, two, (8, 8))
            self.fails(BadSize("places", 11), call, one, two, (1,))
            self.fails(BadSize("places", 12), call, two, one, (1, 0))
            few = sheaf_piece(1, walkers=5)
            self.fails(BadSize("walkers", 11), call, few, two, (1,))
            self.fails(Unlike("border"), call, sheaf_piece(1), two, (3,))
            self.fails(BadSize("walkers", 9), call, sheaf_piece(1), two, (4,))
            self.fails(Unlike("border"), call, two, sheaf_piece(0), [0, 3])


class Views(Case):
    def test_whole_classes(self):
        for many in (1, 2, 3):
            pieces = small(some_pieces(40, seed=220 + many, border=many))
            for first, second in zip(pieces, pieces[1:]):
                for guests in ((0,) * many, (1,) * many, (2, 0, 1)[:many]):
                    self.same(views(first, second, guests), told_views(first, second, guests))

    def test_names_of_the_second_piece_itself(self):
        world = make_world(make_web(["k", "l"], [("u", "k", "l"), ("v", "k", "l")]))
        bare = make_piece(make_world(make_web(["a", "b"], [])), ["b", "a"])
        self.same(views(bare, (world, ("l", "k")), (1, 1)),
                  [(("k", "l"), (2, 0)), (("l", "k"), (2, 0)), (("l", "l"), (1, 1))])
        self.same(views(bare, (world, ("k", "l")), (0, 2)), [(("l", "l"), (0, 2))])
        self.same(views(first=bare, second=(world, ("k", "l")), guests=[1, 0]),
                  [(("k", "l"), (0, 1)), (("l", "k"), (0, 1)), (("l", "l"), (1, 0))])

    def test_same_for_alike_pieces(self):
        for many in (1, 2, 3):
            pieces = small(some_pieces(60, seed=224 + many, border=many))
            pairs = [(one, trim(one)) for one in pieces]
            pairs += [(one, other) for one in pieces for other in pieces if one != other and are_alike(one, other)][:40]
            for (one, other), third in zip(pairs, pieces[::-1] * 3):
                self.same(are_alike(one, other), True)
                for guests in ((0,) * many, (1,) * many, (0, 2, 1)[:many]):
                    self.same(views(one, third, guests), views(other, third, guests))

    def test_eight_and_nine_live_ways(self):
        four, five = sheaf_piece(4), sheaf_piece(5)
        self.same(len(live_ways(glue(four, four, (6,)))), 8)
        self.same(views(four, four, (6,)), told_views(four, four, (6,)))
        self.same(len(live_ways(glue(four, five, (1,)))), 9)
        self.fails(TooLarge("live", 9), views, four, five, (1,))
        self.fails(TooLarge("live", 10), views, five, five, (1,))
        self.same(views(five, five, (0,)), [(("i0",) * 5, (0,))])

    def test_class_of_more_than_200_worlds(self):
        four = sheaf_piece(4)
        world = glue(four, four, (8,))
        self.same((len(live_ways(world)), count_class(world)), (8, 256))
        self.same(views(four, four, (8,)), told_views(four, four, (8,)))


class GuestRows(Case):
    def test_example_of_the_document(self):
        piece = make_piece(make_world(make_web(["a", "b"], [("w", "a", "b")])), ["a", "b"])
        self.same(guest_rows(piece, [1, 0]), [(0, 1), (1, 0)])
        self.same(guest_rows(guests=(0, 1), piece=piece), [(0, 1)])
        self.same(guest_rows(piece, (0, 0)), [(0, 0)])
        self.same(guest_rows(piece, (6, 6)), [(5, 7), (6, 6)])

    def test_what_comes_to_stand_there(self):
        for piece in some_pieces(60, seed=230):
            many = len(piece[1])
            heads = [(row[0], head_of(piece[0], row[0])) for row in piece[0][0][1]]
            inner = [(place, pair[0]) for place, pair in zip(piece[0][0][0], piece[0][2]) if place not in piece[1]]
            for guests in product((0, 1), repeat=many):
                world = make_world(piece[0][0], heads=heads, alike=[*inner, *zip(piece[1], guests)])
                found = {tuple(bag_at(end, place).many for place in piece[1]) for end in class_of(world)}
                self.same(guest_rows(piece, guests), sorted(found))

    def test_row_below_nought_is_left_out(self):
        self.same(shifts(PIECE, ()), ((0, -1), (0, 0), (0, 1)))
        self.same(guest_rows(PIECE, (0, 0)), [(0, 0), (0, 1)])
        self.same(guest_rows(PIECE, (0, 1)), [(0, 0), (0, 1), (0, 2)])
        self.same(guest_rows((PIECE[0], ("b", "e")), (0, 0)), [(0, 0), (1, 0)])

    def test_many_guests_and_walkers(self):
        piece = sheaf_piece(6, walkers=8)
        self.same(guest_rows(piece, [6]), [(number,) for number in range(0, 7)])
        wide = make_piece(make_world(make_web(["a", "b", "c", "i"], []), alike=[("i", 8)]), ["c", "a", "b"])
        self.same(guest_rows(wide, (6, 6, 6)), [(6, 6, 6)])

    def test_wrong_guests(self):
        for number in (*BAD_NUMBERS, 7, 8, 9):
            self.fails(BadNumber(number), guest_rows, PIECE, (6, number))
            self.fails(BadNumber(number), guest_rows, PIECE, [0, 0, number, None])
        for guests in ((), (1,), [0, 0, 0], (6,) * 40):
            self.fails(BadSize("border", len(guests)), guest_rows, PIECE, guests)


def told_telling(one, other, telling):
    """True if a tuple with the shape of a telling meets its conditions, word by word as point 57 tells."""
    guests, row, side = telling
    within = [row in guest_rows(piece, guests) for piece in (one, other)]
    return within[side] and not within[1 - side]


class Tellings(Case):
    def test_exactly_if_the_pieces_are_not_alike(self):
        for many in (1, 2, 3):
            pieces = [*some_pieces(25, seed=240 + many, border=many), *some_pieces(10, seed=244, border=many, ways=1)]
            for one in pieces:
                for other in pieces:
                    telling = find_telling(one, other)
                    self.same(telling is None, are_alike(one, other))
                    if telling is not None:
                        self.same(is_telling(one, other, telling), True)
                        self.same(told_telling(one, other, telling), True)
                        self.same(is_telling(other, one, (*telling[:2], 1 - telling[2])), True)

    def test_shift_that_only_more_guests_show(self):
        # No guest comes to a; but the walker inside does, and where guests lie at a the ways that lead on show.
        near = make_world(make_web(["a", "i"], [("u", "i", "a")]), heads=[("u", "a")], alike=[("i", 1)])
        bare = make_piece(near, ["a"])
        on = make_piece(make_world(make_web(["a", "i", "j"], [("u", "i", "a"), ("v", "a", "j")]),
                                   heads=[("u", "a"), ("v", "j")], alike=[("i", 1)]), ["a"])
        self.same((guest_rows(bare, [0]), guest_rows(on, [0])), ([(0,), (1,)], [(0,), (1,)]))
        telling = find_telling(one=bare, other=on)
        self.same((is_telling(bare, on, telling), is_telling(on, bare, telling)), (True, False))
        six = [sheaf_piece(ways) for ways in (5, 6)]
        self.same(is_telling(six[0], six[1], find_telling(*six)), True)
        self.same(is_telling(six[0], six[1], ((5,), (0,), 1)), False)
        self.same(is_telling(six[0], six[1], ((6,), (0,), 1)), True)

    def test_every_tuple(self):
        pieces = some_pieces(8, seed=245, border=2, ways=3)
        for one in pieces:
            for other in pieces:
                for guests in product((0, 1, 6), repeat=2):
                    for row in product(range(-1, 3), repeat=2):
                        for side in (0, 1):
                            telling = (guests, row, side)
                            self.same(is_telling(one, other, telling), told_telling(one, other, telling))

    def test_other_values(self):
        one = make_piece(make_world(make_web(["a", "b"], [])), ["a", "b"])
        other = make_piece(make_world(make_web(["a", "b"], [("w", "a", "b")])), ["a", "b"])
        right = ((1, 0), (0, 1), 1)
        self.same((is_telling(one, other, right), is_telling(telling=right, one=other, other=one)), (True, False))
        self.same(is_telling(other, one, ((1, 0), (0, 1), 0)), True)
        values = [
            *ODD_VALUES, (), right[:2], (*right, 0), list(right), ([1, 0], (0, 1), 1), ((1, 0), [0, 1], 1),
            ((1, 0), (0, 1), True), ((1, 0), (0, 1), "1"), ((1, 0), (0, 1), 2), ((1, 0), (0, 1), -1),
            ((1, 0), (0, 1), None), ((1, 0), (0, 1), (1,)), ((1, 0), (0, 1), 0), ((1,), (0, 1), 1),
            ((1, 0, 0), (0, 1), 1), ((1, 0), (0, 1, 0), 1), ((1, 0), (0,), 1), ((True, 0), (0, 1), 1),
            ((1, False), (0, 1), 1), ((1, 0), (0, True), 1), ((1, 0), (False, 1), 1), ((7, 0), (6, 1), 1),
            ((8, 0), (7, 1), 1), ((1, -1), (0, 0), 1), ((-1, 0), (0, 1), 1), ((1, None), (0, 1), 1),
            (("1", 0), (0, 1), 1), (((1,), 0), (0, 1), 1), (([1], 0), (0, 1), 1), ((1, 0), (0, None), 1),
            ((1, 0), ((0,), 1), 1), (None, (0, 1), 1), ((1, 0), None, 1), ("10", "01", 1), ((), (), 1),
            ((1, 0), (1, 0), 1), ((1, 0), (5, 5), 2), ((1, 0), (5, 5), -1), ((1, 0), (10 ** 19, 1), 1),
            ((10 ** 19, 0), (0, 1), 1), (1, 0), right + right,
        ]
        self.judges(lambda value: is_telling(one, other, value), values, False)

    def test_each_condition_alone(self):
        one = make_piece(make_world(make_web(["a", "b"], [])), ["a", "b"])
        other = make_piece(make_world(make_web(["a", "b"], [("w", "a", "b")])), ["a", "b"])
        for telling in (((1, 0), (0, 1), 0), ((1, 0), (1, 0), 0), ((1, 0), (1, 0), 1), ((1, 0), (2, -1), 1),
                        ((0, 0), (0, 1), 1), ((6, 0), (5, 1), 0), ((1, 0), (1, 1), 1)):
            self.same(is_telling(one, other, telling), False)
        for telling in (((6, 0), (5, 1), 1), ((1, 6), (0, 7), 1)):
            self.same(is_telling(one, other, telling), True)
        self.judges(lambda value: is_telling(one, one, value), [((1, 0), (1, 0), 0), ((1, 0), (1, 0), 1)], False)

    def test_unlike_whatever_the_value_is(self):
        one, two = make_piece(two_ways(), ["a"]), make_piece(two_ways(), ["a", "b"])
        self.fails(Unlike("border"), find_telling, one, two)
        for value in (None, True, [], (), ((1,), (0,), 0), ((1, 0), (0, 1), 1), "zz", 7):
            self.fails(Unlike("border"), is_telling, one, two, value)
            self.fails(Unlike("border"), is_telling, two, one, value)


class Largest(Case):
    def test_pieces_of_six_ways(self):
        pieces = [piece for piece in some_pieces(60, seed=250, border=3, inner=6, walkers=8)
                  if len(piece[0][0][1]) == 6][:12]
        self.assertGreater(len(pieces), 6)
        for one, other in zip(pieces, pieces[1:]):
            telling = find_telling(one, other)
            self.same(telling is None, are_alike(one, other))
            self.same(telling is None or is_telling(one, other, telling), True)
