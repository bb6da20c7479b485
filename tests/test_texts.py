"""Point 15: the text of a world, and its reader."""

from tests.support import Case, sample_world, some_worlds, two_ways
from turnbehind.errors import BadText
from turnbehind.texts import read_world, write_world
from turnbehind.worlds import make_web, make_world

GOOD = ["place a", "place b", "way u a b", "way v b a", "walkers a 1", "walkers b 2", "walker al b", "walker bo a"]


class Write(Case):
    def test_example(self):
        world = two_ways(heads=[("v", "a")], alike=[("a", 1)])
        self.same(write_world(world), "place a\nplace b\nway u a b\nway v b a\nwalkers a 1")

    def test_all_kinds_of_lines(self):
        self.same(write_world(sample_world()), "\n".join([
            "place a", "place b", "place c", "place d", "place e", "place f",
            "way u a b", "way v b a", "way w b c", "way x d e", "way y f a", "way z f d",
            "walkers a 1", "walkers d 1", "walker al c", "walker bo a", "walker cy d",
        ]))

    def test_smallest(self):
        self.same(write_world(make_world(make_web(["b", "a"], []))), "place a\nplace b")
        self.same(read_world("place a\nplace b"), make_world(make_web(["b", "a"], [])))

    def test_no_line_for_nobody(self):
        self.same(write_world(two_ways(named=[("al", "a")])), "place a\nplace b\nway u a b\nway v a b\nwalker al a")

    def test_by_name(self):
        self.same(read_world(text=write_world(world=two_ways())), two_ways())


class ReadBack(Case):
    def test_equal_worlds(self):
        for world in [two_ways(), sample_world(), *some_worlds(100, seed=8)]:
            text = write_world(world)
            self.same(read_world(text), world)
            self.same(write_world(read_world(text)), text)

    def test_world_at_the_bounds(self):
        spots = [f"place{k}" for k in range(10)]
        web = make_web(spots, [(f"way{k}", spots[k % 9], spots[9]) for k in range(14)])
        named = [(f"n{k}", spots[k]) for k in range(4)]
        for world in (make_world(web, alike=[("place9", 4)], named=named), make_world(web, alike=[("place9", 8)])):
            self.same(read_world(write_world(world)), world)

    def test_good_text(self):
        world = two_ways(heads=[("v", "a")], alike=[("a", 1), ("b", 2)], named=[("al", "b"), ("bo", "a")])
        self.same(read_world("\n".join(GOOD)), world)

    def test_same_name_for_things_of_several_kinds(self):
        text = "place a\nplace place\nway a a place\nwalkers a 1\nwalker a place\nwalker way a"
        self.same(write_world(read_world(text)), text)


class BadLines(Case):
    def bad(self, at, lines):
        """The reader stops at this line, whatever follows."""
        with self.subTest(lines=lines):
            self.fails(BadText(at), read_world, "\n".join(lines))
            self.fails(BadText(at), read_world, "\n".join([*lines, "", "place A"]))

    def replaced(self, at, line):
        """The good text with another line at this index is wrong there."""
        self.bad(at + 1, [*GOOD[:at], line, *GOOD[at + 1:]])
        self.bad(at + 1, [*GOOD[:at], line])

    def test_single_line(self):
        self.fails(BadText(2), read_world, "place a")
        for text in ("", " ", "place", "place ", "place A", "place a ", "way u a b", "walkers a 1", "walker a b", "x"):
            self.fails(BadText(1), read_world, text)
        self.fails(BadText(1), read_world, "\n")
        self.fails(BadText(2), read_world, "place a\n")
        self.fails(BadText(1), read_world, "\nplace a")

    def test_newline_at_the_end(self):
        self.bad(9, [*GOOD, ""])
        self.bad(3, ["place a", "place b", ""])

    def test_words(self):
        for line in (
            "", " ", "way", "way v", "way v b", "way v b a a", "way v b a ", " way v b a", "way  v b a", "way v  b a",
            "way v b  a", "Way v b a", "ways v b a", "way V b a", "way v\tb a", "way v2345678x b a", "way 9v b a",
        ):
            self.replaced(3, line)
        for line in ("place", "place b b", "place  b", "place b ", " place b", "Place b", "place B", "place bcdefghij"):
            self.replaced(1, line)
        for line in ("walkers", "walkers a", "walkers a 1 1", "walkers  a 1", "walkers a  1", "walkers a 1 "):
            self.replaced(4, line)
        for line in ("walker", "walker al", "walker al b b", "walker Al b", "walker al  b", "walker 1 b", "walker  b"):
            self.replaced(6, line)

    def test_order_of_kinds(self):
        self.bad(4, [*GOOD[:3], "place c"])
        self.bad(6, [*GOOD[:5], "place c"])
        self.bad(6, [*GOOD[:5], "way w a b"])
        self.bad(8, [*GOOD[:7], "place c"])
        self.bad(8, [*GOOD[:7], "way w a b"])
        self.bad(8, [*GOOD[:7], "walkers b 1"])
        self.bad(4, ["place a", "place b", "walker al b", "walkers b 1"])

    def test_two_places_first(self):
        self.bad(2, ["place a", "way u a b"])
        self.bad(2, ["place a", "walkers a 1"])
        self.bad(2, ["place a", "walker al a"])
        self.same(write_world(read_world("place a\nplace b\nwalkers b 1")), "place a\nplace b\nwalkers b 1")
        self.same(write_world(read_world("place a\nplace b\nwalker al b")), "place a\nplace b\nwalker al b")

    def test_order_of_second_words(self):
        for line in ("place a", "place 0", "place a1"[:7]):
            self.replaced(1, line)
        self.replaced(3, "way u b a")
        self.replaced(3, "way t b a")
        self.replaced(5, "walkers a 2")
        self.bad(6, [*GOOD[:4], "walkers b 1", "walkers a 1"])
        self.replaced(7, "walker al a")
        self.replaced(7, "walker ak a")
        self.same(read_world("place a\nplace b\nway a a b\nwalkers a 1\nwalker a a")[1], ("b",))

    def test_places(self):
        for line in ("way v b c", "way v c a", "way v a a", "way v b b", "way v c c", "way v u a", "way v  a"):
            self.replaced(3, line)
        for line in ("walkers c 1", "walkers u 1", "walkers A 1"):
            self.replaced(4, line)
        for line in ("walker al c", "walker al u", "walker al al"):
            self.replaced(6, line)

    def test_counts(self):
        for count in ("0", "9", "01", "10", "12", "+1", "-1", "a", "1a", "1_", "00", "08", ""):
            self.replaced(4, f"walkers a {count}")
        for count in range(1, 9):
            self.same(read_world(f"place a\nplace b\nwalkers a {count}")[2], ((count, ()), (0, ())))

    def test_too_many(self):
        places = [f"place p{k}" for k in range(10)]
        self.same(len(read_world("\n".join(places))[0][0]), 10)
        self.bad(11, [*places, "place q"])
        ways = [f"way w{k:02d} a b" for k in range(14)]
        self.same(len(read_world("\n".join([*GOOD[:2], *ways]))[1]), 14)
        self.bad(17, [*GOOD[:2], *ways, "way x a b"])
        self.bad(4, [*GOOD[:2], "walkers a 4", "walkers b 5"])
        self.same(read_world("place a\nplace b\nwalkers a 4\nwalkers b 4")[2], ((4, ()), (4, ())))
        self.bad(4, [*GOOD[:2], "walkers a 8", "walker al a"])
        self.bad(5, [*GOOD[:2], "walkers a 7", "walker al a", "walker bo a"])
        names = [f"walker n{k} a" for k in range(8)]
        self.same(len(read_world("\n".join([*GOOD[:2], *names]))[2][0][1]), 8)
        self.bad(11, [*GOOD[:2], *names, "walker o a"])

    def test_other_splits(self):
        self.fails(BadText(2), read_world, "place a\nplace b place c")
        self.fails(BadText(1), read_world, "place a place b")
