"""Errands: what a walker is to do, their texts, and the reader of these texts."""

from turnbehind.errors import BadText, Unknown
from turnbehind.names import is_name

# The words with which an errand begins that tells so many names and then, for some, another errand.
WORDS = ("by", "to", "while", "until", "as")
NAMES = (1, 1, 2, 0, 1)
PLAIN = ("by", "to")


def children(errand):
    """The tuple of the errands of which the errand consists."""
    if errand[0] == "seq":
        return errand[1]
    return (errand[-1],) if errand[0] in ("while", "until", "as") else ()


def errands_in(errand):
    """The list of all errands in the errand, itself included, in the order of the words with which they begin."""
    return [errand] + [part for child in children(errand) for part in errands_in(child)]


def write_errand(errand):
    """The text of the errand."""
    return " ".join(words_of(errand))


def words_of(errand):
    """The words of the text of the errand."""
    if errand[0] == "each":
        return ["each", *errand[1]]
    if errand[0] in PLAIN:
        return list(errand)
    if errand[0] != "seq":
        return [*errand[:-1], *words_of(errand[-1])]
    words = ["("]
    for index, part in enumerate(errand[1]):
        if index > 0:
            words.append(";")
        words.extend(words_of(part))
    return [*words, ")"]


def tidy(errand):
    """The errand without rows in rows, and without rows of one errand."""
    kind = errand[0]
    if kind in ("while", "until", "as"):
        return (*errand[:-1], tidy(errand[-1]))
    if kind != "seq":
        return errand
    items = []
    for part in errand[1]:
        tidied = tidy(part)
        items.extend(tidied[1] if tidied[0] == "seq" else (tidied,))
    return items[0] if len(items) == 1 else ("seq", tuple(items))


def errand_of(deeds):
    """The errand that does these deeds; raises Unknown if an alike walker is to do one."""
    for _, name in deeds:
        if name is None:
            raise Unknown("walker", None)
    return ("seq", tuple([("as", name, ("by", way)) for way, name in deeds]))


def read_errand(text):
    """The errand with this text; raises BadText with the index of the first word that cannot stand there."""
    words = text.split(" ")
    errand, end = read_part(words, 0)
    if end < len(words):
        raise BadText(end)
    return errand


def word_at(words, at):
    """The word of this index, or None behind the last word."""
    return words[at] if at < len(words) else None


def read_part(words, at):
    """The errand that begins with the word of this index, and the index behind its words; raises BadText."""
    kind = word_at(words, at)
    if kind == "(":
        return read_seq(words, at + 1)
    if kind == "each":
        return read_each(words, at + 1)
    if kind not in WORDS:
        raise BadText(at)
    end = at + 1 + NAMES[WORDS.index(kind)]
    for spot in range(at + 1, end):
        if not is_name(word_at(words, spot)):
            raise BadText(spot)
    if kind in PLAIN:
        return ((kind, words[at + 1]), end)
    inner, last = read_part(words, end)
    return ((*words[at:end], inner), last)


def read_seq(words, at):
    """The row of errands whose words begin behind its bracket, and the index behind them; raises BadText."""
    if word_at(words, at) == ")":
        return (("seq", ()), at + 1)
    errand, end = read_part(words, at)
    items = [errand]
    while word_at(words, end) == ";":
        errand, end = read_part(words, end + 1)
        items.append(errand)
    if word_at(words, end) != ")":
        raise BadText(end)
    return (("seq", tuple(items)), end + 1)


def read_each(words, at):
    """The errand that tries the ways from the word of this index on, and the index behind them; raises BadText."""
    end = at
    while is_name(word_at(words, end)):
        end += 1
    if end == at:
        raise BadText(at)
    return (("each", tuple(words[at:end])), end)
