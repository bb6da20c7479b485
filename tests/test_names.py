"""Points 2, 3, 5, 9: names, numbers, sequences of names."""

from tests.support import ODD_VALUES, Case
from turnbehind.errors import BadName, BadNumber, Repeated
from turnbehind.names import ascending, check_number, first_repeated, fresh_name, is_name

NO_NUMBERS = [None, True, False, "", "1", "x"]


class IsName(Case):
    def test_names(self):
        self.judges(is_name, ["a", "z", "a0", "z9", "m5", "abcdefgh", "a1234567", "by", "walker"], True)

    def test_sizes(self):
        for size in range(12):
            self.assertIs(is_name("a" * size), 1 <= size <= 8)

    def test_every_sign_first_and_later(self):
        letters = "abcdefghijklmnopqrstuvwxyz"
        for code in [10, *range(32, 127)]:
            sign = chr(code)
            with self.subTest(sign=sign):
                self.assertIs(is_name(sign), sign in letters)
                self.assertIs(is_name("a" + sign), sign in letters + "0123456789")
                self.assertIs(is_name("a" + sign + "b"), sign in letters + "0123456789")

    def test_signs_beside_the_allowed_ones(self):
        values = ["`", "{", "/", ":", "a`", "a{", "a/", "a:", "A", "aZ", "a_", "a-b", " a", "a ", "a\n"]
        self.judges(is_name, values, False)

    def test_other_kinds(self):
        values = [value for value in ODD_VALUES if value not in ("a", "aaaa")]
        self.judges(is_name, [*values, ("a", "b"), ["a", "b"], ("a",)], False)


class CheckNumber(Case):
    def test_bounds(self):
        for low, high in ((0, 8), (-3, 3), (5, 5), (-10 ** 19, 10 ** 19)):
            for number in (low, high):
                self.same(check_number(number, low, high), number)
            for number in (low - 1, high + 1):
                self.fails(BadNumber(number), check_number, number, low, high)
        self.same(check_number(4, 0, 8), 4)

    def test_crossed_bounds(self):
        for number in (0, 1, 2, 3, -1):
            self.fails(BadNumber(number), check_number, number, 2, 1)

    def test_other_kinds(self):
        for number in NO_NUMBERS:
            self.fails(BadNumber(number), check_number, number, -5, 5)
            self.fails(BadNumber(number), check_number, number, 5, -5)

    def test_by_name(self):
        self.same(check_number(high=3, number=2, low=1), 2)


class FirstRepeated(Case):
    def test_first_item_that_comes_again(self):
        for names, wanted in (
            ([], None), (["a"], None), (["a", "b"], None), (["a", "a"], "a"), (["a", "b", "b", "a"], "b"),
            (["b", "a", "a", "b"], "a"), (["a", "b", "c", "b", "a"], "b"), (["", ""], ""), (["A", "a"], None),
            (["x", "y", "z", "x"], "x"),
        ):
            with self.subTest(names=names):
                self.same(first_repeated(names), wanted)
                self.same(first_repeated(tuple(names)), wanted)


class Ascending(Case):
    def test_order(self):
        self.same(ascending(["b", "a", "a1", "Z", ""]), ["", "Z", "a", "a1", "b"])
        self.same(ascending(("b", "a")), ["a", "b"])
        self.same(ascending([]), [])
        self.same(ascending(()), [])

    def test_new_list(self):
        names = ["a", "b"]
        found = ascending(names)
        found.append("c")
        self.same(names, ["a", "b"])
        self.same(ascending(names), ["a", "b"])
        self.assertIsNot(ascending(names), names)

    def test_argument_stays(self):
        names = ["b", "a"]
        ascending(names)
        self.same(names, ["b", "a"])

    def test_repeated(self):
        self.fails(Repeated("b"), ascending, ["c", "b", "a", "b", "a"])
        self.fails(Repeated("c"), ascending, ("c", "a", "c", "a"))
        self.fails(Repeated(""), ascending, ["", ""])


class FreshName(Case):
    def test_example(self):
        self.same(fresh_name("w", ["w1", "w0", "w3"]), "w2")

    def test_least_number(self):
        self.same(fresh_name("w", []), "w0")
        self.same(fresh_name("w", ()), "w0")
        self.same(fresh_name("w", ("w", "x0", "w00", "w01")), "w0")
        self.same(fresh_name("w", [f"w{k}" for k in range(40)]), "w40")
        self.same(fresh_name("w1", ["w10", "w11"]), "w12")

    def test_stem_is_no_name(self):
        for stem in ("", "W", "9", "abcdefghi", "a b", "a-", " a", "a\n"):
            self.fails(BadName(stem), fresh_name, stem, [])
            self.fails(BadName(stem), fresh_name, stem, [stem + "0"])

    def test_result_too_long(self):
        self.same(fresh_name("abcdefg", []), "abcdefg0")
        self.fails(BadName("abcdefgh0"), fresh_name, "abcdefgh", [])
        self.fails(BadName("abcdefg10"), fresh_name, "abcdefg", [f"abcdefg{k}" for k in range(10)])
        self.same(fresh_name("abcdefg", [f"abcdefg{k}" for k in range(9)]), "abcdefg9")

    def test_long_results_that_are_taken_are_passed_over(self):
        self.fails(BadName("abcdefgh2"), fresh_name, "abcdefgh", ["abcdefgh1", "abcdefgh0"])
        self.fails(BadName("abcdefg12"), fresh_name, "abcdefg", [f"abcdefg{k}" for k in range(12)])
