"""Points 64, 65 and 68: errands, their texts, the reader's first wrong word, tidying."""

import random
import re
from itertools import product

from tests.support import Case, sample_world, wander
from turnbehind.errands import errand_of, read_errand, tidy, write_errand
from turnbehind.errors import BadText, Unknown

SAMPLES = [
    (("by", "u"), "by u"),
    (("to", "b"), "to b"),
    (("seq", ()), "( )"),
    (("seq", (("by", "u"),)), "( by u )"),
    (("seq", (("by", "u"), ("as", "bo", ("to", "b")))), "( by u ; as bo to b )"),
    (("while", "u", "b", ("by", "v")), "while u b by v"),
    (("until", ("each", ("u", "u", "v"))), "until each u u v"),
    (("each", ("u",)), "each u"),
    (("each", ("u", "by", "v")), "each u by v"),
    (("by", "by"), "by by"),
    (("as", "as", ("to", "to")), "as as to to"),
    (("while", "while", "until", ("until", ("until", ("by", "each")))), "while while until until until by each"),
    (("seq", (("each", ("u", "to")), ("seq", ()), ("seq", (("seq", ()),)))), "( each u to ; ( ) ; ( ( ) ) )"),
    (("as", "al", ("as", "bo", ("seq", (("until", ("seq", ())), ("by", "u"))))), "as al as bo ( until ( ) ; by u )"),
    (("to", "a1234567"), "to a1234567"),
]


def some_errands(count, *, ways, places, names, seed=1, deep=3):
    """So many errands of such names, the same ones in each run."""
    chance = random.Random(seed)

    def some(left):
        kind = chance.choice(["by", "to", "each"] + ["seq", "seq", "while", "until", "as"] * (left > 0))
        if kind == "by":
            return ("by", chance.choice(ways))
        if kind == "to":
            return ("to", chance.choice(places))
        if kind == "each":
            return ("each", tuple(chance.choice(ways) for _ in range(chance.randint(1, 3))))
        if kind == "seq":
            return ("seq", tuple(some(left - 1) for _ in range(chance.choice((0, 1, 1, 2, 2, 3)))))
        if kind == "while":
            return ("while", *chance.choice([(way, place) for way in ways for place in places]), some(left - 1))
        if kind == "as":
            return ("as", chance.choice(names), some(left - 1))
        return ("until", some(left - 1))

    return [some(chance.randint(0, deep)) for _ in range(count)]


def first_wrong(words):
    """The index of the first word that cannot stand at its position, or None: by what is still to come."""
    coming = {"by": ["name"], "to": ["name"], "while": ["errand", "name", "name"], "until": ["errand"],
              "as": ["errand", "name"], "each": ["more", "name"], "(": ["first"]}
    todo = ["errand"]
    at = 0
    while todo:
        want = todo.pop()
        word = words[at] if at < len(words) else None
        named = word is not None and re.fullmatch("[a-z][a-z0-9]{0,7}", word) is not None
        if want == "errand" and word in coming:
            todo += coming[word]
        elif want == "name" and named:
            pass
        elif want == "more" and named:
            todo.append("more")
        elif want == "more":
            continue
        elif want == "first" and word != ")":
            todo += ["next", "errand"]
            continue
        elif want == "next" and word == ";":
            todo += ["next", "errand"]
        elif want not in ("first", "next") or word != ")":
            return at
        at += 1
    return None if at == len(words) else at


def told_tidy(errand):
    """The tidied errand, one replacement after another as point 68 tells."""
    before = None
    while before != errand:
        before = errand
        errand = once(errand)
    return errand


def once(errand):
    """The errand after each replacement that can be made at once."""
    if errand[0] in ("while", "until", "as"):
        return (*errand[:-1], once(errand[-1]))
    if errand[0] != "seq":
        return errand
    if len(errand[1]) == 1:
        return once(errand[1][0])
    items = []
    for part in errand[1]:
        items += part[1] if part[0] == "seq" else [part]
    return ("seq", tuple(once(part) for part in items))


class Texts(Case):
    def test_samples(self):
        for errand, text in SAMPLES:
            self.same(write_errand(errand), text)
            self.same(read_errand(text), errand)
        self.same((write_errand(errand=("by", "u")), read_errand(text="by u")), ("by u", ("by", "u")))

    def test_examples_of_the_document(self):
        self.same(read_errand("( by u ; as bo to b )"), ("seq", (("by", "u"), ("as", "bo", ("to", "b")))))
        self.fails(BadText(4), read_errand, "while u b by")

    def test_there_and_back(self):
        words = ["u", "v", "by", "to", "each", "as", "while", "until", "a1", "w2345678"]
        texts = {}
        for errand in some_errands(400, ways=words, places=words, names=words, seed=401):
            text = write_errand(errand)
            self.same(read_errand(text), errand)
            self.same(texts.setdefault(text, errand), errand)
            self.assertNotIn("  ", text)
            self.assertIsNone(first_wrong(text.split(" ")))

    def test_every_short_text(self):
        words = ["by", "to", "(", ")", ";", "while", "until", "each", "as", "u", "", "U"]
        for count in range(1, 5):
            for row in product(words, repeat=count):
                self.read(row)

    def test_longer_texts(self):
        chance = random.Random(402)
        words = ["by u", "to", "(", "(", ")", ")", ";", ";", "while u b", "until", "each u", "as al", "u", "by",
                 "by u ; by v", "to b"]
        right = 0
        for _ in range(6000):
            text = " ".join(chance.choice(words) for _ in range(chance.randint(3, 12)))
            right += self.read(text.split(" "))
        self.assertGreater(right, 20)

    def test_one_wrong_word(self):
        chance = random.Random(403)
        for errand in some_errands(150, ways=["u", "by"], places=["b", "until"], names=["al", "as"], seed=404):
            words = write_errand(errand).split(" ")
            at = chance.randrange(len(words))
            other = chance.choice([")", "(", ";", "", "u", "by", "9", "U", "abcdefghi", "a_b", "each"])
            self.read([*words[:at], other, *words[at + 1:]])
            self.read([*words[:at], *words[at + 1:]])
            self.read([*words[:at], other, *words[at:]])
            self.read([*words, other])
            self.read(words[:at])

    def read(self, words):
        """The reader returns an errand with this text, or tells the first wrong word; True if it returns one."""
        text = " ".join(words)
        # Words that are put together to a text may be fewer than the text has.
        wrong = first_wrong(text.split(" "))
        if wrong is None:
            self.same(write_errand(read_errand(text)), text)
        else:
            self.fails(BadText(wrong), read_errand, text)
        return wrong is None

    def test_edges(self):
        for text, at in (
            ("", 0), (" ", 0), (" by u", 0), ("by  u", 1), ("by u ", 2), ("by", 1), ("by ", 1), ("to", 1), ("(", 1),
            ("( ", 1), ("( by u", 3), ("( by u ;", 4), ("( by u ; )", 4), ("( ; by u )", 1), ("( by u ; ; by v )", 4),
            ("( by u by v )", 3), ("( )  ", 2), ("( ) )", 2), ("by u by v", 2), ("by u ; by v", 2), (") by u", 0),
            ("; by u", 0), ("each", 1), ("each ", 1), ("each )", 1), ("each u ", 2), ("each u U", 2), ("each u )", 2),
            ("( each u", 3), ("( each )", 2), ("( each u  )", 3), ("( each u ; )", 4), ("while", 1), ("while u", 2),
            ("while u b", 3), ("while u  by v", 2), ("while u ( )", 2), ("until", 1), ("until until", 2),
            ("until u", 1), ("until )", 1), ("as", 1), ("as al", 2), ("as ( )", 1), ("as al al", 2), ("by U", 1),
            ("by 1u", 1),
            ("by abcdefghi", 1), ("by u1_", 1), ("By u", 0), ("by (", 1), ("u", 0), ("( u )", 1), ("(by u)", 0),
            ("( by u; by v )", 2), ("( by u )u", 3), ("as as as by by", 5), ("( ( ( )", 4), ("( until )", 2),
        ):
            self.same(first_wrong(text.split(" ")), at)
            self.fails(BadText(at), read_errand, text)

    def test_words_behind_each(self):
        self.same(read_errand("( each u by v ; by each )"), ("seq", (("each", ("u", "by", "v")), ("by", "each"))))
        self.same(read_errand("until each until each"), ("until", ("each", ("until", "each"))))
        self.same(read_errand("each each"), ("each", ("each",)))

    def test_eighty_words(self):
        deep = "until " * 78 + "by u"
        self.same(write_errand(read_errand(deep)), deep)
        rows = "( " * 40 + ") " * 39 + ")"
        self.same(write_errand(read_errand(rows)), rows)
        self.same(tidy(read_errand(rows)), ("seq", ()))
        self.fails(BadText(80), read_errand, ("( " * 80)[:-1])
        self.fails(BadText(80), read_errand, ("as al " * 40)[:-1])
        self.same(len(read_errand("each" + " u" * 79)[1]), 79)


class Tidy(Case):
    def test_ordinary(self):
        one, two, three = ("by", "u"), ("to", "b"), ("each", ("u", "v"))
        for errand, wanted in (
            (("seq", ()), ("seq", ())), (("seq", (one,)), one), (("seq", (one, two)), ("seq", (one, two))),
            (("seq", (("seq", ()),)), ("seq", ())), (("seq", (("seq", ()), ("seq", ()))), ("seq", ())),
            (("seq", (("seq", (one,)),)), one), (("seq", (("seq", (one, two)),)), ("seq", (one, two))),
            (("seq", (one, ("seq", (two, ("seq", (three,)))))), ("seq", (one, two, three))),
            (("seq", (("seq", ()), one, ("seq", ()))), one), (("until", ("seq", (one,))), ("until", one)),
            (("seq", (("until", ("seq", (one,))),)), ("until", one)), (("until", ("seq", ())), ("until", ("seq", ()))),
            (("as", "al", ("seq", (("as", "bo", ("seq", (one, ("seq", (two,))))),))),
             ("as", "al", ("as", "bo", ("seq", (one, two))))),
            (("while", "u", "b", ("seq", (("seq", (three,)),))), ("while", "u", "b", three)), (three, three),
            (("seq", (("seq", (one, ("until", ("seq", (("seq", ()), two))))), three)),
             ("seq", (one, ("until", two), three))),
        ):
            self.same(tidy(errand), wanted)
            self.same(tidy(errand=wanted), wanted)

    def test_replacement_after_replacement(self):
        words = ["u", "v"]
        for errand in some_errands(400, ways=words, places=words, names=words, seed=405, deep=5):
            self.same(tidy(errand), told_tidy(errand))


class ErrandOf(Case):
    def test_ordinary(self):
        wanted = ("seq", (("as", "al", ("by", "u")), ("as", "bo", ("by", "v"))))
        self.same(errand_of([("u", "al"), ["v", "bo"]]), wanted)
        self.same(errand_of(deeds=(("u", "al"), ("v", "bo"))), wanted)
        self.same((errand_of(()), errand_of([])), (("seq", ()), ("seq", ())))
        self.same(errand_of([("zz", "yy")]), ("seq", (("as", "yy", ("by", "zz")),)))

    def test_alike_walker(self):
        self.fails(Unknown("walker", None), errand_of, [("u", "al"), ("v", None)])
        self.fails(Unknown("walker", None), errand_of, [["u", None]])
        self.fails(Unknown("walker", None), errand_of, [("u", "al")] * 39 + [("u", None)])

    def test_forty_deeds(self):
        deeds = [deed for deed in wander(sample_world(), 400) if deed[1] is not None][:40]
        self.same(len(deeds), 40)
        errand = errand_of(deeds)
        self.same(errand, ("seq", tuple(("as", name, ("by", way)) for way, name in deeds)))
        text = write_errand(errand)
        self.same((len(text.split(" ")), read_errand(text), tidy(errand)), (40 * 4 + 39 + 2, errand, errand))

    def test_arguments_stay(self):
        deeds = [["u", "al"]]
        errand_of(deeds)
        self.same(deeds, [["u", "al"]])
