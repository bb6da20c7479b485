"""Points 61 to 63: the first misfit, covers, and wrong sets of a diary."""

from itertools import product

from tests.support import ODD_VALUES, Case, class_of, sized, subsets, two_ways
from tests.test_diaries import PAIR, STILL, holds, last_of, runs_of, small_worlds, some_entries
from turnbehind.classes import members, rank_of
from turnbehind.deeds import go, moves
from turnbehind.diaries import find_run, fits_diary, make_diary, worlds_at
from turnbehind.errors import BadNumber
from turnbehind.worlds import make_web, make_world
from turnbehind.wrongs import find_cover, first_misfit, is_cover, is_wrong_set, least_wrong, wrong_sets


def diaries(count, seed):
    """So many diaries of small worlds, most of which do not fit, the same ones in each run."""
    found = []
    for at, world in enumerate(small_worlds(count, seed)):
        for step in range(2):
            entries = some_entries(world, 2 + 3 * step, seed=at + step, most=3, rightly=0.5)
            found.append(make_diary(world, entries[:6]))
    return found


def without(diary, indexes):
    """The diary without the entries of these indexes."""
    world, entries = diary
    return make_diary(world, [entry for index, entry in enumerate(entries) if index not in indexes])


def asked(diary, index, rows):
    """By moment, the ranks for which the conditions of point 62 ask, given the rows, word by word."""
    world, entries = diary
    told = entries[:index + 1]
    worlds = members(world)

    def shows(end, moment):
        return all(holds(end, entry) for entry in told if entry[0] == moment)

    found = [{rank_of(world)} if shows(world, 0) else set()]
    for moment in range(1, len(rows)):
        after = [go(worlds[rank], *deed) for rank in rows[moment - 1] for deed in moves(worlds[rank])]
        found.append({rank_of(end) for end in after if shows(end, moment)})
    return found


def told_cover(diary):
    """The cover that the program has to return, word by word as point 62 tells."""
    world, entries = diary
    for index in range(len(entries)):
        if runs_of(world, entries[:index + 1]) == []:
            rows = []
            for _ in range(last_of(entries[:index + 1]) + 1):
                rows.append(())
                rows = [tuple(sorted(ranks)) for ranks in asked(diary, index, rows)]
            return (index, tuple(rows))
    return None


class Misfits(Case):
    def test_as_prefixes_tell(self):
        many = {}
        for diary in diaries(60, 311):
            world, entries = diary
            wrong = [index for index in range(len(entries)) if runs_of(world, entries[:index + 1]) == []]
            self.same(first_misfit(diary), wrong[0] if wrong else None)
            self.same(fits_diary(diary), wrong == [])
            many[first_misfit(diary)] = many.get(first_misfit(diary), 0) + 1
        self.assertLessEqual({None, 0, 1, 2}, set(many))

    def test_ordinary(self):
        entries = [(0, "way", "u", "b"), (1, "way", "u", "a"), (1, "place", "a", 2), (2, "way", "u", "b")]
        self.same(first_misfit(make_diary(PAIR, entries)), 1)
        self.same(first_misfit(diary=make_diary(PAIR, entries[:2])), None)
        self.same(first_misfit(make_diary(PAIR, [*entries[:2], (2, "way", "v", "b")])), None)
        self.same(first_misfit(make_diary(PAIR, [*entries[:2], (2, "place", "a", 0)])), 2)
        self.same(first_misfit(make_diary(PAIR, ())), None)

    def test_no_deed_is_possible(self):
        rows = [(0, "place", "a", 0), (0, "place", "b", 0), (1, "place", "a", 0), (8, "place", "a", 0)]
        diary = make_diary(STILL, rows)
        self.same((first_misfit(diary), find_cover(diary)), (2, (2, ((0,), ()))))
        self.same((least_wrong(diary), wrong_sets(diary)), (2, [(2, 3)]))


class Covers(Case):
    def test_as_the_document_tells(self):
        for diary in diaries(60, 312):
            cover = find_cover(diary)
            self.same(cover, told_cover(diary))
            if cover is not None:
                self.same((is_cover(diary, cover), find_run(diary)), (True, None))

    def test_every_cover_of_a_small_class(self):
        world = two_ways(heads=[("v", "a")], alike=[("a", 1)])
        self.same(len(class_of(world)), 3)
        parts = subsets(range(3))
        for entries in (
            [(1, "place", "a", 1)], [(1, "place", "a", 1), (1, "place", "a", 0)],
            [(0, "place", "a", 2), (2, "place", "a", 1)],
            [(1, "place", "a", 0), (2, "place", "a", 1), (2, "way", "v", "b")], [(0, "place", "a", 2)],
            [(0, "place", "a", 1), (0, "way", "u", "b")], [(2, "place", "b", 1)],
        ):
            diary = make_diary(world, entries)
            found = []
            for index, entry in enumerate(diary[1]):
                for rows in product(parts, repeat=entry[0] + 1):
                    needed = asked(diary, index, rows)
                    right = rows[-1] == () and all(ranks <= set(row) for ranks, row in zip(needed, rows))
                    self.same(is_cover(diary, (index, rows)), right)
                    found.extend([(index, rows)] if right else [])
            self.same(found == [], fits_diary(diary))
            if found:
                self.same(find_cover(diary) in found, True)

    def test_more_ranks_than_needed_and_later_index(self):
        # One deed leads from the worlds of rank 1 and 2 to that of rank 0, and back; only there no walker is at a.
        diary = make_diary(PAIR, [(1, "place", "a", 1), (2, "place", "a", 1)])
        self.same((first_misfit(diary), find_cover(diary)), (0, (0, ((2,), ()))))
        ranks = {world[1]: rank for rank, world in enumerate(members(PAIR))}
        self.same(ranks, {("a", "a"): 0, ("a", "b"): 1, ("b", "a"): 2})
        self.same((is_cover(diary, (0, ((1, 2), ()))), is_cover(diary, (0, ((0, 2), ())))), (True, False))
        self.same((is_cover(diary, (1, ((2,), (), ()))), is_cover(diary, (1, ((2,), (0,), ())))), (True, False))
        other = make_diary(PAIR, [(1, "place", "b", 1), (2, "place", "b", 1), (3, "place", "a", 1)])
        self.same((first_misfit(other), find_cover(other)), (1, (1, ((2,), (0,), ()))))
        for index, rows, right in (
            (1, ((2,), (0,), ()), True), (1, ((1, 2), (0,), ()), True), (1, ((0, 2), (0,), ()), True),
            (1, ((2,), (0, 1), ()), False), (1, ((2,), (), ()), False), (1, ((), (0,), ()), False),
            (1, ((2,), (0,), (0,)), False), (0, ((2,), ()), False), (0, ((2,), (0,)), False),
            (2, ((2,), (0,), (), ()), True), (2, ((2,), (0,), (), (1,)), False), (2, ((2,), (0,), (1,), ()), True),
            (2, ((2,), (0,), (0,), ()), False), (2, ((2,), (0,), ()), False), (1, ((2,), (0,), (), ()), False),
        ):
            self.same(is_cover(other, (index, rows)), right)
        self.same(is_cover(cover=(1, ((2,), (0,), ())), diary=other), True)

    def test_only_the_entries_up_to_the_index_are_considered(self):
        diary = make_diary(PAIR, [(0, "place", "a", 0), (0, "place", "a", 1), (1, "place", "a", 1)])
        self.same(find_cover(diary), (0, ((),)))
        self.same(is_cover(diary, (1, ((),))), True)
        self.same(is_cover(make_diary(PAIR, diary[1][1:]), (0, ((),))), False)
        later = make_diary(PAIR, [(1, "place", "a", 0), (1, "place", "b", 0), (1, "place", "b", 1)])
        self.same((find_cover(later), is_cover(later, (0, ((2,), ()))), is_cover(later, (1, ((2,), ())))),
                  ((1, ((2,), ())), False, True))

    def test_other_values(self):
        diary = make_diary(PAIR, [(1, "place", "b", 1), (2, "place", "b", 1)])
        right = (1, ((2,), (0,), ()))
        self.same(is_cover(diary, right), True)
        values = [
            *ODD_VALUES, (), (1,), list(right), (*right, ()), (True, right[1]), ("1", right[1]), (None, right[1]),
            (-1, right[1]), (2, right[1]), (10 ** 19, right[1]), ((1,), right[1]), (1, list(right[1])), (1, ()),
            (1, ((2,), (0,))), (1, ((2,), (0,), (), ())), (1, ([2], (0,), ())), (1, ((2,), (0,), [])),
            (1, ((2, 2), (0,), ())), (1, ((2, 1), (0,), ())), (1, ((2, 3), (0,), ())), (1, ((-1, 2), (0,), ())),
            (1, ((2, None), (0,), ())), (1, (("2",), (0,), ())), (1, ((2,), (False,), ())), (1, ((True, 2), (0,), ())),
            (1, ((2,), ((0,),), ())), (1, ((2,), 0, ())), (1, (2, 0, ())), (1, ((2,), (0,), None)), (1, None),
            (1, ((2,), (0, 10 ** 19), ())), (0, ((2,), (0,))), (1, "abc"), (1, ((2,), ([0],), ())),
            [1, [[2], [0], []]],
        ]
        self.judges(lambda value: is_cover(diary, value), values, False)
        fits = make_diary(PAIR, [(1, "place", "b", 1)])
        self.judges(lambda value: is_cover(fits, value), [*values, right, (0, ((2,), ())), (0, ((), ()))], False)
        self.judges(lambda value: is_cover(make_diary(PAIR, ()), value), [*values, right, (0, ((),)), (0, ())], False)


class WrongSets(Case):
    def test_every_set(self):
        sizes = {}
        for diary in diaries(50, 313):
            entries = diary[1]
            found = [part for part in subsets(range(len(entries)))
                     if runs_of(diary[0], without(diary, part)[1]) != []]
            for part in subsets(range(len(entries))):
                self.same(is_wrong_set(diary, part), part in found)
            least = min(len(part) for part in found)
            self.same(least_wrong(diary), least)
            self.same(wrong_sets(diary), sorted(part for part in found if len(part) == least)[:10])
            sizes[least] = sizes.get(least, 0) + 1
        self.assertLessEqual({0, 1, 2, 3}, set(sizes))

    def test_diary_that_fits(self):
        diary = make_diary(PAIR, [(1, "place", "b", 1), (0, "place", "a", 1)])
        self.same((least_wrong(diary), wrong_sets(diary)), (0, [()]))
        self.same([is_wrong_set(diary, part) for part in subsets(range(2))], [True] * 4)
        empty = make_diary(PAIR, ())
        self.same((least_wrong(empty), wrong_sets(empty, most=1), is_wrong_set(empty, ())), (0, [()], True))

    def test_some_and_no_more_than_most(self):
        # Eight entries, and of each two that contradict each other one has to go.
        world = make_world(make_web(["a", "b"], [(f"w{k}", "a", "b") for k in range(4)]),
                           heads=[(f"w{k}", "ab"[k % 2]) for k in range(4)], alike=[("a", 1), ("b", 1)])
        entries = [(2 * k, "way", f"w{k}", end) for k in range(4) for end in "ab"]
        diary = make_diary(world, entries)
        every = [tuple(part) for part in product((0, 1), (2, 3), (4, 5), (6, 7))]
        wanted = [part for part in every if is_wrong_set(diary, part)]
        self.same((least_wrong(diary), len(wanted)), (4, 8))
        self.same(wrong_sets(diary, most=70), wanted)
        self.same((wrong_sets(diary), wrong_sets(diary, most=1), wrong_sets(diary, most=3)),
                  (wanted[:10], wanted[:1], wanted[:3]))
        late = make_diary(world, [(8, "way", f"w{k}", end) for k in range(4) for end in "ab"])
        found = wrong_sets(late, most=70)
        self.assertGreater(len(wrong_sets(diary=late, most=10) + found), 10)
        self.same((wrong_sets(late, most=10), wrong_sets(late, most=1)), (found[:10], found[:1]))

    def test_ten_of_sixteen(self):
        # Within two deeds al can move or stay, so of each two entries either one may go.
        world = make_world(make_web(["a", "b"], [("u", "a", "b"), ("v", "a", "b"), ("w", "a", "b")]),
                           heads=[("u", "a")], alike=[("a", 1), ("b", 1)], named=[("al", "a")])
        diary = make_diary(world, [(2 * k, "name", "al", place) for k in range(1, 5) for place in "ab"])
        every = list(product((0, 1), (2, 3), (4, 5), (6, 7)))
        self.same((least_wrong(diary), wrong_sets(diary, most=70)), (4, every))
        self.same((wrong_sets(diary), wrong_sets(diary, most=11), wrong_sets(diary, most=16)),
                  (every[:10], every[:11], every))

    def test_new_list(self):
        diary = make_diary(PAIR, [(1, "place", "a", 1)])
        wrong_sets(diary).append("more")
        self.same(wrong_sets(diary), [(0,)])

    def test_moments_that_are_left(self):
        # Without the last entry no deed has to be possible.
        diary = make_diary(STILL, [(0, "place", "a", 0), (8, "place", "a", 0)])
        self.same((wrong_sets(diary), is_wrong_set(diary, (0,)), is_wrong_set(diary, (0, 1))), ([(1,)], False, True))

    def test_wrong_numbers(self):
        for diary in (make_diary(PAIR, ()), make_diary(PAIR, [(1, "place", "a", 1)])):
            for most in (None, True, False, "", "1", 0, -1, 71, 10 ** 19, -10 ** 19):
                self.fails(BadNumber(most), wrong_sets, diary, most=most)
            for most in (1, 10, 70):
                self.same(wrong_sets(diary, most=most), [(0,) * len(diary[1])])
        self.assertRaises(TypeError, wrong_sets, diary, 10)

    def test_other_values(self):
        diary = make_diary(PAIR, [(1, "place", "a", 1), (1, "place", "a", 0)])
        self.same([is_wrong_set(diary, part) for part in subsets(range(2))], [False, False, True, True])
        self.same(is_wrong_set(indexes=(0, 1), diary=diary), True)
        values = [
            *ODD_VALUES, [1], [0, 1], (True,), (False, True), (0, True), (False, 1), (1, 1), (1, 0), (0, 2), (-1, 1),
            (2,), (1, None), ("1",), ((1,),), ([1],), (0, (1,)), (1, 10 ** 19), 1, None, "1", (0,), (),
        ]
        self.judges(lambda value: is_wrong_set(diary, value), values, False)


class Largest(Case):
    def test_hundred_worlds_and_eight_entries(self):
        world = sized(100)
        for seed in range(5):
            entries = some_entries(world, 12, seed=seed, most=8, rightly=0.6)[-8:]
            diary = make_diary(world, entries)
            self.same(len(diary[1]), 8)
            index, cover = first_misfit(diary), find_cover(diary)
            self.same(cover is None, index is None)
            if index is not None:
                self.same((cover[0], is_cover(diary, cover), worlds_at(diary, 0)), (index, True, []))
                self.same(fits_diary(make_diary(world, diary[1][:index])), True)
            for part in wrong_sets(diary, most=70):
                self.same((len(part), is_wrong_set(diary, part)), (least_wrong(diary), True))

    def test_contradicting_entries(self):
        world = sized(100)
        diary = make_diary(world, [(8, "place", "c", number) for number in range(8)])
        self.same((least_wrong(diary), is_wrong_set(diary, wrong_sets(diary)[0])), (7, True))
