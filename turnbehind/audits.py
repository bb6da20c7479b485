"""What can be told of whole books: wrong rows, differences, shortened books, claims in conflict."""

from turnbehind.book import Book
from turnbehind.errors import BadRow
from turnbehind.histories import shorten
from turnbehind.papers import comes_of
from turnbehind.parts import walker_names


def audit(world, rows):
    """The index of the first wrong row, or None if a book with these rows can be made."""
    try:
        Book.made(world, rows)
    except BadRow as error:
        return error.index
    return None


def first_difference(one, other):
    """None if two books are equal, -1 if their start worlds differ, otherwise the least index of a differing row."""
    if one.start != other.start:
        return -1
    for index in range(max(len(one), len(other))):
        # A row that is not there leaves the empty list.
        if one.rows[index:index + 1] != other.rows[index:index + 1]:
            return index
    return None


def shortened(book):
    """A new book in which each run of deeds is shortened."""
    kept = []
    deeds = []
    for index, row in enumerate(book.rows):
        if row[0] == "deed":
            deeds.append(row[1:])
        else:
            kept.extend(deed_rows(book.world_at(index - len(deeds)), deeds))
            kept.append(row)
            deeds = []
    kept.extend(deed_rows(book.world_at(len(book) - len(deeds)), deeds))
    return Book.made(book.start, kept)


def deed_rows(world, deeds):
    """The rows of the shortened history of these deeds."""
    return [("deed", way, walker) for way, walker in shorten(world, deeds)]


def conflicts(book):
    """The ascending tuple of the indexes of the claim rows that contradict the book's current world."""
    now = book.world
    rows = book.rows
    return tuple([index for index, row in enumerate(rows) if row[0] == "claim" and contradicts(now, row[1], row[2])])


def contradicts(now, end, says):
    """True if it is not so now what a claim says about the world end."""
    if now[0] != end[0] or walker_names(now) != walker_names(end):
        return True
    return comes_of(now, end) != says
