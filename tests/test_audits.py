"""Points 71 to 73 and 22: audits of rows, differences of books, shortened books, claims in conflict."""

from tests.support import Case, sample_world, some_worlds, two_ways
from tests.test_book import AFTER, FAR, ROWS, START, WRONG_ROWS, right, some_rows
from turnbehind.audits import audit, conflicts, first_difference, shortened
from turnbehind.book import Book
from turnbehind.histories import shorten
from turnbehind.papers import comes_of
from turnbehind.worlds import make_web, make_world, names_of


def told_shortened(book):
    """The rows of the shortened book, run after run."""
    rows, run, begin = [], [], book.start
    for number, row in enumerate([*book.rows, None]):
        if row is not None and row[0] == "deed":
            run.append(row[1:])
            continue
        rows += [("deed", *deed) for deed in shorten(begin, run)]
        if row is not None:
            rows.append(row)
            begin = book.world_at(number + 1)
        run = []
    return rows


class Audit(Case):
    def test_no_row_is_wrong(self):
        for rows in ([], (), ROWS, tuple(ROWS), ROWS[:3]):
            self.same(audit(START, rows), None)
        self.same(audit(rows=ROWS, world=START), None)
        for at, world in enumerate(some_worlds(40, seed=441, places=4, ways=5, walkers=3)):
            self.same(audit(world, some_rows(world, 10, at)), None)

    def test_each_wrong_row_alone(self):
        for value in WRONG_ROWS:
            with self.subTest(value=value):
                self.same(audit(START, [value]), 0)
                self.same(audit(START, [("deed", "u", None), ("deed", "u", None), value, value, None]), 2)
        for at, row in enumerate(ROWS):
            for other in (None, [], "row", ("deed",), (*row, None), list(row), row[:-1]):
                self.same(audit(START, [*ROWS[:at], other, *ROWS[at + 1:]]), at)

    def test_first_wrong_row(self):
        for at, world in enumerate(some_worlds(40, seed=442, places=3, ways=4, walkers=3)):
            rows = some_rows(world, 8, at)[::-1]
            now = world
            wrong = None
            for index, row in enumerate(rows):
                now = right(now, row)
                if now is None:
                    wrong = index
                    break
            self.same(audit(world, rows), wrong)

    def test_arguments_stay(self):
        rows = [*ROWS, ["deed", ["u"], None], [[]]]
        audit(START, rows)
        self.same(rows, [*ROWS, ["deed", ["u"], None], [[]]])

    def test_many_rows(self):
        self.same(audit(START, [("deed", "u", None)] * 200), None)
        self.same(audit(START, [("deed", "u", None)] * 199 + [("deed", "v", None)]), None)
        self.same(audit(START, [("deed", "u", None)] * 198 + [("deed", "v", None)]), 198)
        self.same(audit(START, [("claim", AFTER, True, (("u", None),) * 2999)]), None)


class Difference(Case):
    def test_ordinary(self):
        book = Book.made(START, ROWS)
        self.same((first_difference(book, book), first_difference(book, book.twin())), (None, None))
        self.same(first_difference(Book(START), Book(START)), None)
        self.same(first_difference(Book(START), Book(AFTER)), -1)
        self.same(first_difference(book, Book(AFTER)), -1)
        for size in range(len(ROWS)):
            self.same(first_difference(book, Book.made(START, ROWS[:size])), size)
            self.same(first_difference(other=book, one=Book.made(START, ROWS[:size])), size)
        other = Book.made(START, ROWS[:3])
        other.alter(("come", "b", None))
        self.same((first_difference(book, other), first_difference(other, book)), (3, 3))

    def test_claims(self):
        one, other = Book(START), Book(START)
        one.claim(START, True, ())
        other.claim(START, True, (("u", None), ("u", None)))
        self.same(first_difference(one, other), 0)
        other.undo()
        other.claim(START, True, ())
        self.same(first_difference(one, other), None)
        other.go("u")
        one.go("v", "bo")
        self.same(first_difference(one, other), 1)
        self.same(first_difference(Book(two_ways()), Book(sample_world())), -1)


class Shortened(Case):
    def test_runs(self):
        there = ("deed", "u", None)
        claim = ("claim", START, True, ())
        back = ("claim", START, True, (("u", None),))
        come = ("change", ("come", "b", None))
        other = ("deed", "v", "bo")
        for rows, wanted in (
            ([], []), ([there], [there]), ([there, there], []), ([there] * 3, [there]), ([there, other, there], None),
            ([there, there, claim, there, there], [claim]), ([there, back, there], [there, back, there]),
            ([there, there, come, there, there], [come]), ([there, come, there], [there, come, there]),
            ([claim, there, there, claim, there], [claim, claim, there]), ([come, come], [come, come]),
            ([there, there, there, back, there, there, there], [there, back, there]), (ROWS, None),
        ):
            book = Book.made(START, rows)
            short = shortened(book)
            self.same(short.rows, told_shortened(book) if wanted is None else wanted)
            self.same((short.start, short.world, book.rows), (START, book.world, rows))

    def test_runs_of_the_given_book(self):
        # Between the two changes nothing is left; the runs before and behind them are not put together.
        rows = [("deed", "u", None), ("change", ("come", "a", "al")), ("deed", "u", None), ("deed", "u", None),
                ("change", ("gone", "a", "al")), ("deed", "u", None)]
        book = Book.made(START, rows)
        self.same(shortened(book=book).rows, [rows[0], rows[1], rows[4], rows[5]])
        self.same(shortened(shortened(book)).rows, [rows[0], rows[1], rows[4], rows[5]])

    def test_a_new_book(self):
        book = Book.made(START, ROWS)
        short = shortened(book)
        short.undo()
        self.same(book.rows, ROWS)
        self.assertIs(type(short), Book)

    def test_run_after_run(self):
        lost = 0
        for at, world in enumerate(some_worlds(80, seed=443, places=3, ways=4, walkers=2)):
            book = Book.made(world, some_rows(world, 20, at))
            short = shortened(book)
            self.same(short.rows, told_shortened(book))
            self.same((short.start, short.world), (world, book.world))
            self.same([row for row in short if row[0] != "deed"], [row for row in book if row[0] != "deed"])
            lost += len(book) - len(short)
        self.assertGreater(lost, 50)

    def test_two_hundred_rows(self):
        book = Book.made(START, [("deed", "u", None), ("deed", "v", "bo")] * 100)
        self.same(shortened(book).rows, told_shortened(book))
        self.same(shortened(Book.made(START, [("deed", "u", None)] * 200)).rows, [])


class Conflicts(Case):
    def test_ordinary(self):
        book = Book(START)
        self.same(conflicts(book), ())
        book.claim(START, True, ())
        book.go("u")
        book.claim(FAR, False, ("due", "a"))
        book.claim(AFTER, True, ())
        self.same(conflicts(book), ())
        book.alter(("gone", "b", None))
        self.same((conflicts(book), [row[0] for row in book].count("claim")), ((0, 3), 3))
        book.alter(("come", "a", None))
        book.alter(("gone", "a", None))
        self.same(conflicts(book), (0, 3))
        book.alter(("come", "b", None))
        self.same(conflicts(book=book), ())

    def test_denied_world_that_comes_now(self):
        one, other = two_ways(heads=[("u", "a")]), two_ways(heads=[("v", "a")])
        book = Book(one)
        book.claim(other, False, ("shore", ()))
        book.claim(one, True, ())
        self.same(conflicts(book), ())
        book.alter(("come", "a", None))
        self.same(conflicts(book), (1,))
        web = make_web(["a", "b"], [("u", "a", "b")])
        book = Book(make_world(web, alike=[("a", 1)]))
        book.claim(make_world(web, alike=[("b", 1)]), False, ("due", "a"))
        book.alter(("gone", "a", None))
        book.alter(("come", "b", None))
        self.same((conflicts(book), book.known(book.world)), ((0,), None))

    def test_other_web_or_names(self):
        book = Book(START)
        book.claim(START, True, ())
        book.claim(FAR, False, ("due", "a"))
        for change in (("lift", "u"), ("lay", "w", "a", "b"), ("come", "a", "al"), ("gone", "b", "bo")):
            book.alter(change)
            self.same(conflicts(book), (0, 1))
            book.undo()
            self.same(conflicts(book), ())

    def test_as_rows_tell(self):
        found = 0
        for at, world in enumerate(some_worlds(80, seed=444, places=3, ways=4, walkers=2)):
            book = Book.made(world, some_rows(world, 15, at))
            now = book.world
            wanted = []
            for index, row in enumerate(book):
                if row[0] == "claim":
                    like = row[1][0] == now[0] and names_of(row[1]) == names_of(now)
                    if not like or comes_of(now, row[1]) is not row[2]:
                        wanted.append(index)
            self.same(conflicts(book), tuple(wanted))
            found += len(wanted)
        self.assertGreater(found, 20)
