"""Points 44 to 46: worlds that fit a picture, bars where there is none, and what the worlds that fit have in common."""

from tests.support import Case, class_of, largest_worlds, sample_world, some_worlds, two_ways, wander
from tests.test_pictures import EMPTY, WRONG, some_pictures, told_in
from turnbehind.errors import BadEnd, Unknown
from turnbehind.fittings import find_bar, find_fit, least_fit, must_heads, name_places, span
from turnbehind.histories import replay
from turnbehind.papers import comes_of
from turnbehind.pictures import is_bar, join_pictures, make_picture, picture_of, shows
from turnbehind.reaches import live_ways, reach, region_of
from turnbehind.standings import standing_of
from turnbehind.worlds import bag_at, head_of, make_web, make_world, names_of, place_of

WITH_PICTURE = (find_fit, least_fit, find_bar, must_heads)


def in_order(world):
    """All worlds of the class, in class order."""
    return sorted(class_of(world), key=lambda end: (end[1], standing_of(end)))


class Fits(Case):
    def check(self, world, picture, fits):
        """All answers about the picture are right, if these worlds fit it."""
        fit, bar = find_fit(world, picture), find_bar(world, picture)
        self.same((fit is None, bar is None), (fits == [], fits != []))
        self.same((find_fit(world, picture), find_bar(world, picture)), (fit, bar))
        if fits == []:
            self.same(is_bar(world, picture, bar), True)
            self.same((least_fit(world, picture), must_heads(world, picture)), (None, None))
        else:
            self.same((shows(fit, picture), comes_of(world, fit), fit in fits), (True, True, True))
            self.same(least_fit(world, picture), fits[0])
            heads = {row[0]: {head_of(end, row[0]) for end in fits} for row in world[0][1]}
            one = [(way, min(heads[way])) for way in heads if len(heads[way]) == 1]
            self.same(must_heads(world, picture), tuple(one))
        self.check_spans(world, picture, fits)

    def check_spans(self, world, picture, fits):
        """The numbers of walkers and the places of the named walkers are those in the worlds that fit."""
        for place in world[0][0]:
            numbers = sorted({bag_at(end, place).many for end in fits})
            self.same(span(world, picture, place), (numbers[0], numbers[-1]) if fits else None)
            if fits:
                self.same(numbers, list(range(numbers[0], numbers[-1] + 1)))
        for name in names_of(world):
            places = sorted({place_of(end, name) for end in fits})
            self.same(name_places(world, picture, name), tuple(places) if fits else None)

    def test_small_classes(self):
        kinds = {}
        for at, world in enumerate(some_worlds(100, seed=121, places=4, ways=6, walkers=4)):
            worlds = in_order(world)
            if len(worlds) > 300:
                continue
            for picture in [EMPTY, picture_of(world), *some_pictures(world, 8, seed=at), *some_pictures(worlds[-1], 4)]:
                fits = [end for end in worlds if told_in(end, picture)]
                self.check(world, picture, fits)
                kind = find_bar(world, picture)[0] if not fits else "fit"
                kinds[kind] = kinds.get(kind, 0) + 1
        self.same(sorted(kinds), ["asks", "crowd", "fit", "holds", "name", "still"])
        self.assertGreater(min(kinds.values()), 20)

    def test_parts_of_a_member(self):
        for at, world in enumerate(some_worlds(25, seed=122, places=4, ways=6, walkers=4)):
            worlds = in_order(world)
            whole = picture_of(worlds[len(worlds) // 2])
            for step in (2, 3):
                picture = tuple(pairs[at % step::step] for pairs in whole)
                self.check(world, picture, [end for end in worlds if told_in(end, picture)])

    def test_picture_of_a_world(self):
        for at, world in enumerate([*some_worlds(30, seed=123), *largest_worlds(10, seed=123)]):
            end = replay(world, wander(world, 60, seed=at))
            picture = picture_of(end)
            self.same((find_fit(world, picture), least_fit(world, picture), find_bar(world, picture)), (end, end, None))
            self.same(must_heads(world, picture), picture[0])
            for place, number in picture[1]:
                self.same(span(world, picture, place), (number, number))
            for name, place in picture[2]:
                self.same(name_places(world, picture, name), (place,))

    def test_world_that_does_not_come(self):
        for world in some_worlds(30, seed=124):
            for end in some_worlds(200, seed=125):
                if end[0] == world[0] and names_of(end) == names_of(world):
                    self.same(find_bar(world, picture_of(end)) is None, comes_of(world, end))


class Empty(Case):
    def test_leaves_open_what_is_live(self):
        for world in [sample_world(), *some_worlds(40, seed=126), *largest_worlds(8, seed=126)]:
            still = [(row[0], head_of(world, row[0])) for row in world[0][1] if row[0] not in live_ways(world)]
            self.same(must_heads(world, EMPTY), tuple(still))
            self.same(find_bar(world, EMPTY), None)
            for place in world[0][0]:
                self.same(span(world, EMPTY, place)[1] > 0, place in reach(world))
            for name in names_of(world):
                self.same(name_places(world, EMPTY, name), region_of(world, place_of(world, name)))

    def test_no_walkers(self):
        world = two_ways(heads=[("u", "a")])
        self.same((find_fit(world, EMPTY), least_fit(world, EMPTY)), (world, world))
        self.same(must_heads(world, EMPTY), (("u", "a"), ("v", "b")))
        self.same(must_heads(make_world(make_web(["a", "b"], [])), EMPTY), ())
        self.same(span(world, EMPTY, "a"), (0, 0))


class Numbers(Case):
    def test_a_place_with_no_walker_and_with_eight(self):
        web = make_web(["a", "b"], [(f"w{k}", "a", "b") for k in range(8)])
        world = make_world(web, heads=[(f"w{k}", "a") for k in range(8)], alike=[("b", 8)])
        self.same((span(world, EMPTY, "a"), span(world, EMPTY, "b")), ((0, 8), (0, 8)))
        for number in range(9):
            picture = make_picture(counts=[("a", number)])
            self.same(span(world, picture, "b"), (8 - number, 8 - number))
            self.same(bag_at(find_fit(world, picture), "a").many, number)
        both = make_picture(counts=[("a", 8), ("b", 1)])
        self.same((find_fit(world, both), span(world, both, "a")), (None, None))
        self.same(is_bar(world, both, find_bar(world, both)), True)

    def test_told_names_and_numbers(self):
        world = make_world(make_web(["a", "b"], [("u", "a", "b"), ("v", "a", "b"), ("w", "a", "b")]),
                           heads=[("u", "b")], alike=[("a", 1)], named=[("al", "a"), ("bo", "a"), ("cy", "b")])
        for told, number, fits in (("al bo", 2, True), ("al bo", 1, False), ("al bo", 3, True), ("al bo cy", 2, False),
                                   ("al bo cy", 3, True), ("al", 0, False), ("", 0, True), ("", 4, False)):
            picture = make_picture(counts=[("a", number)], spots=[(name, "a") for name in told.split()])
            self.same(find_fit(world, picture) is not None, fits)
            self.same(find_bar(world, picture) is None, fits)
        self.same(find_bar(world, make_picture(counts=[("a", 1)], spots=[("al", "a"), ("bo", "a")])), ("crowd", "a"))
        self.same(span(world, make_picture(spots=[("al", "b"), ("bo", "b")]), "b"), (2, 4))

    def test_name_that_the_picture_tells(self):
        web = make_web(["a", "b", "c"], [("u", "a", "b"), ("v", "a", "b")])
        world = make_world(web, alike=[("a", 1), ("c", 1)], named=[("al", "a")])
        self.same(name_places(world, EMPTY, "al"), ("a", "b"))
        self.same(name_places(world, make_picture(spots=[("al", "b")]), "al"), ("b",))
        self.same(name_places(world, make_picture(spots=[("al", "c")]), "al"), None)
        self.same(name_places(world, make_picture(counts=[("c", 2)]), "al"), None)
        self.same(name_places(name="al", picture=make_picture(counts=[("b", 0)]), world=world), ("a",))


class Wrong(Case):
    def test_errors(self):
        world = sample_world()
        for told, error in WRONG:
            picture = make_picture(**told)
            for call in WITH_PICTURE:
                self.fails(error, call, world, picture)
            self.fails(error, span, world, picture, "a")
            self.fails(error, name_places, world, picture, "al")

    def test_place_and_name_stand_between(self):
        world = sample_world()
        for told, error in WRONG:
            picture = make_picture(**told)
            first = isinstance(error, Unknown)
            self.fails(error if first else Unknown("place", "qq"), span, world, picture, "qq")
            self.fails(error if first else Unknown("walker", "qq"), name_places, world, picture, "qq")
        self.fails(Unknown("place", "al"), span, picture=EMPTY, place="al", world=world)
        self.fails(Unknown("walker", "a"), name_places, picture=EMPTY, name="a", world=world)
        self.fails(BadEnd("u", "c"), span, world, make_picture(heads=[("u", "c")]), "a")
        self.fails(Unknown("place", ""), span, world, make_picture(counts=[("a", 8), ("b", 8)]), "")

    def test_calls_by_name(self):
        world = two_ways(alike=[("b", 1)])
        for call in WITH_PICTURE:
            self.same(call(picture=EMPTY, world=world), call(world, EMPTY))
        self.same(join_pictures(EMPTY, picture_of(world)), picture_of(world))


class Largest(Case):
    def test_bars_and_fits(self):
        many = {True: 0, False: 0}
        for at, world in enumerate(largest_worlds(15, seed=127)):
            for picture in [*some_pictures(world, 6, seed=at, most=1), EMPTY]:
                fit, bar = find_fit(world, picture), find_bar(world, picture)
                least = least_fit(world, picture)
                many[fit is None] += 1
                if fit is None:
                    self.same((is_bar(world, picture, bar), least), (True, None))
                else:
                    self.same((bar, shows(fit, picture), comes_of(world, fit)), (None, True, True))
                    self.same((shows(least, picture), comes_of(world, least)), (True, True))
                    self.assertLessEqual((least[1], standing_of(least)), (fit[1], standing_of(fit)))
        self.assertGreater(min(many.values()), 10)
