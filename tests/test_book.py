"""Points 71 to 73: books, their rows, wrong rows, and what a book knows."""

import random

from tests.support import ODD_VALUES, Case, class_of, sample_world, some_worlds, two_ways, wander
from tests.test_changes import possible, some_change
from turnbehind.book import Book
from turnbehind.changes import changed
from turnbehind.comings import find_history
from turnbehind.deeds import go, moves
from turnbehind.errors import BadClaim, BadEnd, BadName, BadNumber, BadRow, BadSize, NoDeed, NothingLeft, NoWalker
from turnbehind.errors import Repeated, TurnError, Unknown, Unlike
from turnbehind.histories import is_history, replay
from turnbehind.papers import find_paper, is_paper
from turnbehind.worlds import is_world, make_web, make_world

# u from a to b, v from b to a; an alike walker at a, bo at b.
START = two_ways(heads=[("v", "a")], alike=[("a", 1)], named=[("bo", "b")])
AFTER = go(START, "u")
FAR = two_ways(heads=[("v", "a")], alike=[("b", 1)], named=[("bo", "b")])
ROWS = [
    ("deed", "u", None), ("claim", START, True, (("u", None),)), ("change", ("come", "a", "al")), ("deed", "v", "bo"),
    ("change", ("lay", "w", "a", "b")), ("deed", "w", "bo"), ("change", ("gone", "a", "al")), ("change", ("lift", "w")),
]

# Wrong in START, whatever stands before.
WRONG_ROWS = [
    *ODD_VALUES, (), ("deed",), ("deed", "u"), ("deed", "u", None, None), ["deed", "u", None], ("deed", "zz", None),
    ("deed", "u", "zz"), ("deed", "v", None), ("deed", "u", "bo"), ("deed", ["u"], None), ("deed", ("u",), None),
    ("deed", None, None), ("deed", "u", False), ("deed", "u", True), ("deed", "u", 0), ("deed", "u", ("bo",)),
    ("deed", "u", ["bo"]), ("deed", True, "bo"), ("deed", "", ""), ("deeds", "u", None), ("Deed", "u", None),
    (None, "u", None), (True, "u", None), (("deed",), "u", None), (["deed"], "u", None), (0, "u", None),
    ("deed", ("lift", "u")), ("claim", ("lift", "u")), (None, ("lift", "u")), ("", ("lift", "u")),
    ("change", START, True, ()), (None, START, True, ()), ("change", "u", None), ("claim", "u", None),
    ("change",), ("change", "lift", "u"), ("change", ("lift", "u"), None), ["change", ("lift", "u")],
    ("change", ["lift", "u"]), ("change", None), ("change", ()), ("change", "lift"), ("change", ("lift",)),
    ("change", ("lift", "zz")), ("change", ("lift", None)), ("change", ("lift", ["u"])), ("change", ("lift", True)),
    ("change", ("lift", "u", "v")), ("change", ("lay", "w", "a")), ("change", ("lay", "w", "a", "b", "c")),
    ("change", ("lay", "u", "a", "b")), ("change", ("lay", "W", "a", "b")), ("change", ("lay", None, "a", "b")),
    ("change", ("lay", "w", None, "b")), ("change", ("lay", "w", "a", None)), ("change", ("lay", "w", "a", "a")),
    ("change", ("lay", "w", "a", "c")), ("change", ("lay", 5, "a", "b")), ("change", ("lay", ["w"], "a", "b")),
    ("change", ("come", "a")), ("change", ("come", "a", "bo")), ("change", ("come", "a", "Al")),
    ("change", ("come", "c", None)), ("change", ("come", None, "al")), ("change", ("come", "a", True)),
    ("change", ("come", "a", 0)), ("change", ("come", "a", ("al",))), ("change", ("come", "a", ["al"])),
    ("change", ("gone", "a", "bo")), ("change", ("gone", "b", None)), ("change", ("gone", "c", None)),
    ("change", ("gone", "a", "al")), ("change", ("gone", "a", False)), ("change", ("gone", None, None)),
    ("change", ("gone", "a")), ("change", ("gone", ["a"], None)), ("change", ("went", "u")),
    ("change", (None, "u")), ("change", (["lift"], "u")), ("change", (("lift",), "u")), ("change", (True, "a", None)),
    ("claim",), ("claim", START, True), ("claim", START, True, (), ()), ["claim", START, True, ()],
    ("claim", None, True, ()), ("claim", "a", True, ()), ("claim", list(START), True, ()), ("claim", START, 1, ()),
    ("claim", START, None, ()), ("claim", START, "True", ()), ("claim", START, (True,), ()),
    ("claim", START, [True], ()),
    ("claim", START, True, None), ("claim", START, True, []), ("claim", START, True, (("u", None),)),
    ("claim", START, False, ()), ("claim", START, False, ("due", "a")), ("claim", AFTER, True, ()),
    ("claim", AFTER, True, [("u", None)]), ("claim", AFTER, True, (["u", None],)),
    ("claim", AFTER, True, (("v", None),)),
    ("claim", AFTER, False, (("u", None),)), ("claim", FAR, True, ("due", "a")), ("claim", FAR, False, ["due", "a"]),
    ("claim", FAR, False, ("due", "c")), ("claim", FAR, False, ()), ("claim", FAR, False, None),
    ("claim", FAR, 0, ("due", "a")),
    ("claim", two_ways(), False, ("due", "a")), ("claim", two_ways(), True, ()), ("claim", sample_world(), True, ()),
    ("claim", sample_world(), False, ("due", "a")),
    ("claim", (START[0], START[1], ((True, ()), (0, ("bo",)))), True, ()),
    ("claim", (START[0], list(START[1]), START[2]), True, ()), ("claim", START[:2], True, ()),
    ("claims", START, True, ()),
]


def right(world, row):
    """The world after the row, or None if the row is wrong: word by word as point 72 tells, for rows without lists."""
    if not isinstance(row, tuple) or row == ():
        return None
    if row[0] == "deed" and len(row) == 3 and row[1:] in moves(world):
        return go(world, *row[1:])
    if row[0] == "change" and len(row) == 2:
        sizes = {"lay": 4, "lift": 2, "come": 3, "gone": 3}
        if type(row[1]) is not tuple or sizes.get(row[1][:1] and row[1][0]) != len(row[1]):
            return None
        try:
            return changed(world, row[1])
        except TurnError:
            return None
    if row[0] == "claim" and len(row) == 4 and is_world(row[1]) and type(row[2]) is bool and row[1][0] == world[0]:
        try:
            judged = is_history(world, row[3], row[1]) if row[2] else is_paper(world, row[1], row[3])
        except Unlike:
            return None
        return world if judged else None
    return None


def some_rows(world, count, seed):
    """So many right rows one after another from the world on, the same ones in each run."""
    chance = random.Random(seed)
    rows = []
    while len(rows) < count:
        kind = chance.choice(["deed", "deed", "deed", "change", "claim"])
        if kind == "deed" and moves(world):
            row = ("deed", *chance.choice(moves(world)))
        elif kind == "change":
            row = ("change", some_change(world, chance))
        else:
            end = replay(world, wander(world, 3, seed=len(rows)))
            row = ("claim", end, True, find_history(world, end))
            if chance.random() < 0.4:
                heads = [(way[0], chance.choice(way[1:])) for way in world[0][1]]
                spots = [(name, chance.choice(world[0][0])) for pair in world[2] for name in pair[1]]
                end = make_world(world[0], heads=heads, named=spots)
                paper = find_paper(world, end)
                row = ("claim", end, paper is None, find_history(world, end) if paper is None else paper)
        after = right(world, row)
        if after is not None:
            rows.append(row)
            world = after
    return rows


class Reading(Case):
    def test_empty(self):
        for world in (START, two_ways(), sample_world()):
            book = Book(world)
            self.same((book.start, book.world, book.rows, len(book), bool(book)), (world, world, [], 0, False))
            self.same((list(book), ROWS[0] in book, book.known(world), book.world_at(0)), ([], False, None, world))
        self.same(Book(world=START).start, START)

    def test_rows(self):
        book = Book(START)
        worlds = [START]
        for row in ROWS:
            self.same(row in book, False)
            if row[0] == "deed":
                worlds.append(book.go(*row[1:]))
            elif row[0] == "change":
                worlds.append(book.alter(row[1]))
            else:
                self.same(book.claim(*row[1:]), None)
                worlds.append(worlds[-1])
            self.same((book.world, book.start, len(book), bool(book)), (worlds[-1], START, len(worlds) - 1, True))
            self.same(row in book, True)
        self.same((book.rows, list(book)), (ROWS, ROWS))
        self.same([book.world_at(number) for number in range(9)], worlds)
        for row, before, after in zip(ROWS, worlds, worlds[1:]):
            self.same(right(before, row), after)

    def test_iteration_twice_and_new_lists(self):
        book = Book.made(START, ROWS)
        self.same((list(book), [row for row in book], book.rows), (ROWS, ROWS, ROWS))
        book.rows.append("more")
        book.rows.clear()
        self.same((book.rows, len(book)), (ROWS, len(ROWS)))

    def test_rows_that_are_in_it(self):
        book = Book.made(START, ROWS)
        for row in (("deed", "u", "bo"), ("deed", "zz", None), ("claim", START, False, (("u", None),)),
                    ("claim", START, True, ()), ("claim", AFTER, True, (("u", None),)), ("change", ("lift", "u")),
                    ("change", ("come", "a", None)), ("claim", START, True, None),
                    ("claim", START, True, [("u", None)])):
            self.same(row in book, False)

    def test_random_books(self):
        for at, world in enumerate(some_worlds(60, seed=431, places=4, ways=5, walkers=3)):
            rows = some_rows(world, 12, at)
            worlds = [world]
            for row in rows:
                worlds.append(right(worlds[-1], row))
            for book in (Book.made(world, rows), Book.made(world=world, rows=tuple(rows))):
                self.same((book.start, book.world, book.rows), (world, worlds[-1], rows))
                self.same([book.world_at(number) for number in range(13)], worlds)
            self.same([book.world_at(number=4), book.world_at(12)], [worlds[4], book.world])

    def test_wrong_numbers(self):
        for book in (Book(START), Book.made(START, ROWS)):
            for number in (None, True, False, "", "0", -1, len(book) + 1, 10 ** 19, -10 ** 19):
                self.fails(BadNumber(number), book.world_at, number)


class Writing(Case):
    def test_go(self):
        book = Book(START)
        self.same((book.go("u"), book.go(walker="bo", way="v")), (AFTER, replay(START, [("u", None), ("v", "bo")])))
        self.same(book.rows, [("deed", "u", None), ("deed", "v", "bo")])
        for way, walker, error in (("zz", "yy", Unknown("way", "zz")), ("u", "yy", Unknown("walker", "yy")),
                                   ("", None, Unknown("way", "")), ("v", None, NoDeed(0, "v", "nobody")),
                                   ("u", "bo", NoDeed(0, "u", "elsewhere"))):
            self.fails(error, book.go, way, walker)
        self.same((len(book), book.world), (2, replay(START, [("u", None), ("v", "bo")])))

    def test_go_all(self):
        book = Book(START)
        deeds = [("u", None), ["v", "bo"], ["v", "bo"]]
        self.same(book.go_all(deeds), AFTER)
        self.same(book.rows, [("deed", "u", None), ("deed", "v", "bo"), ("deed", "v", "bo")])
        self.same((deeds, book.world_at(2)), ([("u", None), ["v", "bo"], ["v", "bo"]], replay(START, deeds[:2])))
        self.same((book.go_all(()), book.go_all(deeds=[]), len(book)), (AFTER, AFTER, 3))
        for deeds, error in (
            ([("u", None), ("v", None)], NoDeed(1, "v", "nobody")), ([("v", "al")], Unknown("walker", "al")),
            ((("v", None), ("zz", "yy")), Unknown("way", "zz")), ([["v", "al"]], Unknown("walker", "al")),
            ([["v", "bo"], ["u", "bo"], ["v", None]], NoDeed(1, "u", "elsewhere")),
            ([("u", None), ("u", None), ("u", None), ("v", None), ("v", "yy")], Unknown("walker", "yy")),
        ):
            self.fails(error, book.go_all, deeds)
            self.same((len(book), book.world), (3, AFTER))

    def test_alter(self):
        book = Book(START)
        self.same(book.alter(("come", "b", "al")), changed(START, ("come", "b", "al")))
        self.same(book.alter(change=("lift", "v")), book.world)
        self.same(book.rows, [("change", ("come", "b", "al")), ("change", ("lift", "v"))])
        before = book.world
        for change, error in (
            (("lay", None, "a", "b"), BadName(None)), (("come", "zz", "A"), BadName("A")),
            (("lift", "v"), Unknown("way", "v")),
            (("lay", "u", "zz", "b"), Repeated("u")), (("lay", "v", "b", "b"), BadEnd("v", "b")),
            (("gone", "b", None), NoWalker("b")), (("gone", "a", "bo"), NoWalker("a")),
            (("come", "a", "al"), Repeated("al")),
            (("gone", "zz", "al"), Unknown("place", "zz")), (("gone", "a", "zz"), Unknown("walker", "zz")),
        ):
            self.fails(error, book.alter, change)
            self.same((len(book), book.world), (2, before))
        full = Book(make_world(make_web(["a", "b"], [(f"w{k}", "a", "b") for k in range(14)]), alike=[("a", 8)]))
        self.fails(BadSize("ways", 15), full.alter, ("lay", "w", "a", "b"))
        self.fails(BadSize("walkers", 9), full.alter, ("come", "a", None))

    def test_claims(self):
        book = Book(START)
        self.same((book.claim(START, True, ()), book.claim(AFTER, True, (("u", None),))), (None, None))
        self.same(book.claim(paper=("due", "b"), says=False, end=FAR), None)
        rows = [("claim", START, True, ()), ("claim", AFTER, True, (("u", None),)), ("claim", FAR, False, ("due", "b"))]
        self.same((book.rows, book.world), (rows, START))
        papers = [*ODD_VALUES, (), [], ["due", "a"], ("due", ["a"]), ("shore", ("a", "b")), [("u", None)]]
        for paper in papers:
            for end in (AFTER, FAR, START):
                for says in (True, False):
                    judged = is_history(START, paper, end) if says else is_paper(START, end, paper)
                    if not judged:
                        self.fails(BadClaim(), book.claim, end, says, paper)
                    for other in (two_ways(), two_ways(named=[("al", "b")])):
                        self.fails(Unlike("names"), book.claim, other, says, paper)
                    self.fails(Unlike("web"), book.claim, sample_world(), says, paper)
        self.same((book.rows, book.world), (rows, START))
        book.go("u")
        self.fails(BadClaim(), book.claim, AFTER, True, (("u", None),))
        self.same(book.claim(START, True, (("u", None),)), None)
        book.alter(("come", "a", "al"))
        self.fails(Unlike("names"), book.claim, START, True, ())
        book.alter(("lift", "u"))
        self.fails(Unlike("web"), book.claim, START, False, ("due", "a"))

    def test_undo(self):
        book = Book.made(START, ROWS)
        worlds = [book.world_at(number) for number in range(len(ROWS))]
        for row, world in zip(ROWS[::-1], worlds[::-1]):
            self.same((book.undo(), book.world), (row, world))
        self.fails(NothingLeft(), book.undo)
        self.same((book.rows, book.world, bool(book)), ([], START, False))
        book.go_all([("u", None), ("u", None), ("v", "bo")])
        self.same((book.undo(), book.world, len(book)), (("deed", "v", "bo"), START, 2))
        self.same((book.undo(), book.world, len(book)), (("deed", "u", None), AFTER, 1))
        self.same((book.go("v", "bo"), len(book)), (replay(START, [("u", None), ("v", "bo")]), 2))

    def test_twins_go_on_separately(self):
        book = Book.made(START, ROWS)
        twin = book.twin()
        self.same((twin.start, twin.rows, twin.world), (START, ROWS, book.world))
        self.same([twin.world_at(number) for number in range(9)], [book.world_at(number) for number in range(9)])
        twin.go("u")
        book.undo()
        self.same((len(twin), len(book), twin.rows[:8], book.rows), (9, 7, ROWS, ROWS[:7]))
        book.alter(("come", "a", None))
        self.same((twin.world_at(8), twin.undo()), (replay(Book.made(START, ROWS).world, []), ("deed", "u", None)))
        self.assertIs(type(twin), Book)
        empty = Book(START).twin()
        self.same((empty.rows, empty.start), ([], START))

    def test_two_hundred_rows(self):
        book = Book(START)
        book.go_all([("u", None)] * 199)
        book.claim(START, True, (("u", None),) * 199)
        self.same((len(book), book.world, book.known(START)), (200, AFTER, True))
        again = Book.made(START, book.rows)
        self.same((again.rows, again.twin().rows, again.world_at(200)), (book.rows, book.rows, AFTER))
        long = (("u", None),) * 3000
        book = Book(START)
        book.claim(START, True, long)
        self.same(Book.made(START, book.rows).rows, [("claim", START, True, long)])


class Known(Case):
    def test_last_claim_since_the_last_change(self):
        book = Book(START)
        self.same((book.known(START), book.known(AFTER), book.known(sample_world())), (None, None, None))
        book.claim(AFTER, True, (("u", None),))
        self.same((book.known(AFTER), book.known(end=START), book.known(FAR)), (True, None, None))
        book.claim(FAR, False, ("due", "a"))
        book.go("u")
        self.same((book.known(AFTER), book.known(FAR), book.known(START)), (True, False, None))
        book.alter(("come", "a", None))
        self.same((book.known(AFTER), book.known(FAR), book.known(book.world)), (None, None, None))
        book.undo()
        self.same((book.known(AFTER), book.known(FAR)), (True, False))
        book.alter(("lay", "w", "a", "b"))
        book.claim(book.world, True, ())
        self.same((book.known(book.world), book.known(AFTER), book.known(FAR)), (True, None, None))

    def test_two_claims_about_one_world(self):
        # The world comes of the start world, and then a change is made; about it both may be said, one after the other.
        near = two_ways(heads=[("v", "a")], alike=[("b", 1)])
        book = Book(two_ways(heads=[("v", "a")], alike=[("a", 1)]))
        book.claim(near, False, ("due", "a"))
        self.same(book.known(near), False)
        book.alter(("gone", "a", None))
        book.alter(("come", "b", None))
        self.same(book.known(near), None)
        book.claim(near, True, ())
        self.same(book.known(near), True)
        self.same((book.undo()[2], book.known(near)), (True, None))
        for _ in range(2):
            book.undo()
        self.same(book.known(near), False)
        book.claim(near, False, ("due", "b"))
        self.same((book.known(near), len(book)), (False, 2))

    def test_as_rows_tell(self):
        for at, world in enumerate(some_worlds(60, seed=432, places=3, ways=4, walkers=2)):
            book = Book.made(world, some_rows(world, 14, at))
            since = []
            for row in book:
                since = [] if row[0] == "change" else [*since, row]
            for end in [row[1] for row in book if row[0] == "claim"] + [world, book.world]:
                said = [row[2] for row in since if row[0] == "claim" and row[1] == end]
                self.same(book.known(end), said[-1] if said else None)


RIGHT = ("claim", START, True, ())


class WrongRows(Case):
    def test_each_alone(self):
        for value in WRONG_ROWS:
            for before in ([], [("deed", "u", None)] * 2, [RIGHT, ("claim", FAR, False, ("due", "a"))]):
                with self.subTest(value=value):
                    self.fails(BadRow(len(before)), Book.made, START, [*before, value])
                    self.fails(BadRow(len(before)), Book.made, START, (*before, value, None, *before))

    def test_first_wrong_row(self):
        for at, world in enumerate(some_worlds(40, seed=433, places=3, ways=4, walkers=3)):
            rows = some_rows(world, 8, at)
            for index in range(len(rows)):
                shuffled = [*rows[:index], *rows[index:][::-1]]
                now, wrong = world, None
                for number, row in enumerate(shuffled):
                    now = right(now, row)
                    if now is None:
                        wrong = number
                        break
                if wrong is None:
                    self.same(Book.made(world, shuffled).rows, shuffled)
                else:
                    self.fails(BadRow(wrong), Book.made, world, shuffled)

    def test_rows_that_are_right(self):
        for row in (*ROWS[:1], RIGHT, ("claim", FAR, False, ("due", "b")), ("change", ("come", "a", None)),
                    ("change", ("gone", "a", None)), ("change", ("gone", "b", "bo")), ("change", ("lift", "v")),
                    ("change", ("lay", "w", "b", "a")), ("deed", "v", "bo")):
            self.same(Book.made(START, [row]).rows, [row])
        self.same(Book.made(START, ()).rows, [])
        rows = list(ROWS)
        book = Book.made(START, rows)
        rows.clear()
        self.same(book.rows, ROWS)

    def test_changes_that_are_possible(self):
        chance = random.Random(434)
        for world in some_worlds(80, seed=434):
            change = some_change(world, chance)
            if possible(world, change):
                self.same(Book.made(world, [("change", change)]).world, changed(world, change))
            else:
                self.fails(BadRow(0), Book.made, world, [("change", change)])

    def test_claims_of_a_class(self):
        world = two_ways(heads=[("v", "a")], alike=[("a", 1)])
        for end in class_of(world):
            row = ("claim", end, True, find_history(world, end))
            self.same(Book.made(world, [row]).known(end), True)
            self.fails(BadRow(0), Book.made, world, [("claim", end, False, find_history(world, end))])
