"""Why a diary does not fit: its first misfit, covers, and sets of entries without which it fits."""

from turnbehind.diaries import Maze
from turnbehind.names import check_number, whole
from turnbehind.worlds import tuple_of

MOST_LISTED = 70


def first_misfit(diary):
    """The least index of an entry up to which the diary does not fit, or None if the diary fits."""
    return misfit(Maze(diary), diary[1])


def misfit(maze, entries):
    """The least index of an entry up to which these entries do not fit, or None if all of them do."""
    for index in range(len(entries)):
        if not fitting(maze, entries[:index + 1]):
            return index
    return None


def fitting(maze, entries):
    """True if some history shows these entries."""
    return len(maze.layers(entries)[-1]) > 0


def find_cover(diary):
    """The cover of the first misfit with the fewest ranks, or None if the diary fits."""
    maze = Maze(diary)
    index = misfit(maze, diary[1])
    if index is None:
        return None
    return (index, tuple([tuple(row) for row in maze.layers(diary[1][:index + 1])]))


def is_cover(diary, cover):
    """True if the any value is a cover of the diary."""
    entries = diary[1]
    if not tuple_of(cover, 2) or not right_index(cover[0], len(entries)):
        return False
    index, rows = cover
    told = entries[:index + 1]
    if not tuple_of(rows, told[-1][0] + 1):
        return False
    maze = Maze(diary)
    if not all([right_indexes(row, len(maze.worlds)) for row in rows]):
        return False
    asked = [maze.passing([maze.first], told, 0)]
    for moment in range(1, len(rows)):
        asked.append(maze.passing(maze.after(rows[moment - 1]), told, moment))
    return rows[-1] == () and all([rank in row for ranks, row in zip(asked, rows) for rank in ranks])


def right_index(value, size):
    """True if the any value is an integer from 0 to one less than the size."""
    return whole(value) and 0 <= value < size


def right_indexes(value, size):
    """True if the any value is an ascending tuple of integers from 0 to one less than the size."""
    if not isinstance(value, tuple) or not all([right_index(index, size) for index in value]):
        return False
    return list(value) == sorted(set(value))


def is_wrong_set(diary, indexes):
    """True if the any value tells entries without which the diary fits."""
    entries = diary[1]
    return right_indexes(indexes, len(entries)) and fitting(Maze(diary), others(entries, indexes))


def others(items, indexes):
    """The tuple of the items that do not stand at these indexes."""
    return tuple([item for index, item in enumerate(items) if index not in indexes])


def least_wrong(diary):
    """The number of entries in each of the least wrong sets."""
    return len(least_sets(diary)[0])


def wrong_sets(diary, *, most=10):
    """The ascending list of the least wrong sets, but no more than most of them; raises BadNumber."""
    check_number(most, 1, MOST_LISTED)
    return least_sets(diary)[:most]


def least_sets(diary):
    """The ascending list of all least wrong sets."""
    maze = Maze(diary)
    entries = diary[1]
    size = 0
    found = []
    # Without all of its entries each diary fits.
    while not found:
        found = [part for part in parts_of(len(entries), size) if fitting(maze, others(entries, part))]
        size += 1
    return found


def parts_of(many, size):
    """The ascending list of the ascending tuples of so many of the numbers below many."""
    found = [()]
    for _ in range(size):
        found = [(*part, number) for part in found for number in range(part[-1] + 1 if part else 0, many)]
    return found
