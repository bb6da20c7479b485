"""Point 10: bags."""

from tests.support import Case
from turnbehind.bags import Bag
from turnbehind.errors import BadName, BadNumber, Repeated, Unknown


class Make(Case):
    def test_ordinary(self):
        bag = Bag(3, ["bo", "al"])
        self.same(bag.alike, 3)
        self.same(bag.named, ("al", "bo"))
        self.same(bag.many, 5)
        self.same(bag.pair, (3, ("al", "bo")))

    def test_defaults_and_names_of_the_parameters(self):
        self.same(Bag().pair, (0, ()))
        self.same(Bag(2).pair, (2, ()))
        self.same(Bag(names=("b", "a")).pair, (0, ("a", "b")))
        self.same(Bag(names=[], alike=1).pair, (1, ()))

    def test_bounds(self):
        self.same(Bag(0).alike, 0)
        self.same(Bag(1000).alike, 1000)
        for alike in (1001, -1, None, True, False, "", "1", 10 ** 19, -10 ** 19):
            self.fails(BadNumber(alike), Bag, alike)

    def test_bad_names(self):
        for name in (None, True, False, 0, 5, "", "A", "9a", "abcdefghi", "a b", " "):
            self.fails(BadName(name), Bag, 0, ["a", name, "b"])
        self.same(Bag(0, ["abcdefgh"]).named, ("abcdefgh",))

    def test_repeated(self):
        self.fails(Repeated("b"), Bag, 0, ["c", "b", "a", "b", "a"])
        self.fails(Repeated("c"), Bag, 0, ("c", "a", "c", "a"))

    def test_order_of_errors(self):
        self.fails(BadName("X"), Bag, 1001, ["a", "a", "X", "Y"])
        self.fails(BadNumber(1001), Bag, 1001, ["a", "a"])

    def test_many_names(self):
        names = [f"n{k}" for k in range(40)]
        self.same(Bag(1000, names).many, 1040)


class Read(Case):
    def test_contains(self):
        bag = Bag(2, ["al", "bo"])
        for name, wanted in (("al", True), ("bo", True), ("a", False), ("", False), ("cy", False), ("BO", False)):
            self.assertIs(name in bag, wanted)
        self.assertIs("al" in Bag(5), False)

    def test_iteration(self):
        self.same(list(Bag(3, ["c", "a", "b"])), ["a", "b", "c"])
        self.same(list(Bag(3)), [])
        bag = Bag(0, ["b", "a"])
        self.same([(one, other) for one in bag for other in bag], [("a", "a"), ("a", "b"), ("b", "a"), ("b", "b")])

    def test_truth(self):
        for bag, wanted in ((Bag(), False), (Bag(1), True), (Bag(0, ["a"]), True), (Bag(2, ["a"]), True)):
            self.assertIs(bool(bag), wanted)

    def test_never_changes(self):
        names = ["b", "a"]
        bag = Bag(1, names)
        names.append("c")
        names[0] = "z"
        self.same(bag.pair, (1, ("a", "b")))
        for word in ("alike", "named", "many", "pair"):
            with self.assertRaises(AttributeError):
                setattr(bag, word, 0)
        self.same(names, ["z", "a", "c"])


class AddAndTake(Case):
    def test_add(self):
        one, other = Bag(1, ["c", "a"]), Bag(2, ["b"])
        both = one + other
        self.assertIs(type(both), Bag)
        self.same(both.pair, (3, ("a", "b", "c")))
        self.same((one.pair, other.pair), ((1, ("a", "c")), (2, ("b",))))
        self.same((Bag() + Bag()).pair, (0, ()))
        self.same((Bag(999) + Bag(1)).alike, 1000)

    def test_add_fails(self):
        self.fails(BadNumber(1001), lambda: Bag(1000) + Bag(1))
        self.fails(BadNumber(2000), lambda: Bag(1000, ["a"]) + Bag(1000, ["a"]))
        self.fails(Repeated("b"), lambda: Bag(0, ["d", "c", "b"]) + Bag(0, ["c", "a", "b", "d"]))
        self.fails(Repeated("a"), lambda: Bag(0, ["a"]) + Bag(0, ["a"]))

    def test_subtract(self):
        one, other = Bag(3, ["c", "a", "b"]), Bag(2, ["b"])
        rest = one - other
        self.assertIs(type(rest), Bag)
        self.same(rest.pair, (1, ("a", "c")))
        self.same((one.pair, other.pair), ((3, ("a", "b", "c")), (2, ("b",))))
        self.same((one - one).pair, (0, ()))
        self.same((one - Bag()).pair, one.pair)

    def test_subtract_fails(self):
        self.fails(BadNumber(-1), lambda: Bag(1) - Bag(2))
        self.fails(BadNumber(-1), lambda: Bag(0, ["a"]) - Bag(1, ["b"]))
        self.fails(BadNumber(-1000), lambda: Bag(0, ["a"]) - Bag(1000, ["b"]))
        self.fails(Unknown("walker", "b"), lambda: Bag(1, ["a", "c"]) - Bag(1, ["d", "b", "c"]))
        self.fails(Unknown("walker", "a"), lambda: Bag() - Bag(0, ["a"]))

    def test_equal_calls_have_equal_results(self):
        one, other = Bag(1, ["a"]), Bag(1, ["b"])
        self.same((one + other).pair, (one + other).pair)
        self.same((one + other).pair, (Bag(1, ("a",)) + Bag(1, ("b",))).pair)
