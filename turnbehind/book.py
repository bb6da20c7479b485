"""Books: a start world, and rows of deeds, changes and claims."""

from turnbehind.changes import changed
from turnbehind.errors import BadClaim, BadRow, NothingLeft, TurnError
from turnbehind.histories import is_history, trace
from turnbehind.names import check_number
from turnbehind.papers import is_paper
from turnbehind.worlds import is_world, tuple_of

CHANGES = ("lay", "lift", "come", "gone")
CHANGE_PARTS = (4, 2, 3, 3)


class Book:
    """A start world and the rows that lead from it to the current world."""

    def __init__(self, world):
        self._rows = []
        # The start world, and the world after each row.
        self._worlds = [world]

    @property
    def start(self):
        """The start world."""
        return self._worlds[0]

    @property
    def world(self):
        """The current world."""
        return self._worlds[-1]

    @property
    def rows(self):
        """A list of the rows."""
        return list(self._rows)

    def __len__(self):
        return len(self._rows)

    def __bool__(self):
        return len(self._rows) > 0

    def __iter__(self):
        return iter(self._rows)

    def __contains__(self, x):
        return x in self._rows

    def go(self, way, walker=None):
        """Adds the row of a deed and returns the world after it; raises Unknown, NoDeed."""
        return self.go_all([(way, walker)])

    def go_all(self, deeds):
        """Adds the rows of all these deeds and returns the world after them; raises Unknown, NoDeed."""
        worlds = trace(self.world, deeds)
        for (way, walker), after in zip(deeds, worlds[1:]):
            self._write(("deed", way, walker), after)
        return self.world

    def alter(self, change):
        """Adds the row of a change and returns the world after it; raises as changed."""
        self._write(("change", change), changed(self.world, change))
        return self.world

    def claim(self, end, says, paper):
        """Adds the row of a claim about the current world; raises Unlike, BadClaim."""
        now = self.world
        if not (is_history(now, paper, end) if says else is_paper(now, end, paper)):
            raise BadClaim()
        self._write(("claim", end, says, paper), now)

    def undo(self):
        """Takes the last row away and returns it; raises NothingLeft."""
        if not self._rows:
            raise NothingLeft()
        self._worlds.pop()
        return self._rows.pop()

    def known(self, end):
        """What the last claim about this world since the last change says, or None if there is none."""
        for row in self._rows[::-1]:
            if row[0] == "change":
                return None
            if row[0] == "claim" and row[1] == end:
                return row[2]
        return None

    def world_at(self, number):
        """The world after the first rows, so many; raises BadNumber."""
        check_number(number, 0, len(self._rows))
        return self._worlds[number]

    def twin(self):
        """A new book with the same start world and rows."""
        book = Book(self.start)
        for row, after in zip(self.rows, self._worlds[1:]):
            book._write(row, after)
        return book

    @classmethod
    def made(cls, world, rows):
        """A new book with this start world and these rows; raises BadRow."""
        book = cls(world)
        for index, row in enumerate(rows):
            if not right_shape(row):
                raise BadRow(index)
            try:
                book._take(row)
            except TurnError:
                raise BadRow(index)
        return book

    def _take(self, row):
        """Adds a row of the right shape; raises an error if it is wrong in the current world."""
        if row[0] == "deed":
            self.go(row[1], row[2])
        elif row[0] == "change":
            self.alter(row[1])
        else:
            self.claim(row[1], row[2], row[3])

    def _write(self, row, after):
        """Adds a row, and the world after it."""
        self._rows.append(row)
        self._worlds.append(after)


def right_shape(row):
    """True if the any value has the shape of a row, whether it is right in some world or not."""
    if tuple_of(row, 3) and row[0] == "deed":
        return isinstance(row[1], str) and text_or_none(row[2])
    if tuple_of(row, 2) and row[0] == "change":
        return right_change(row[1])
    if tuple_of(row, 4) and row[0] == "claim":
        return is_world(row[1]) and (row[2] is True or row[2] is False)
    return False


def right_change(change):
    """True if the any value has the shape of a change."""
    if not isinstance(change, tuple) or len(change) == 0 or change[0] not in CHANGES:
        return False
    kind = change[0]
    if len(change) != CHANGE_PARTS[CHANGES.index(kind)]:
        return False
    last = text_or_none(change[-1]) if kind in ("come", "gone") else isinstance(change[-1], str)
    return last and all([isinstance(part, str) for part in change[1:-1]])


def text_or_none(value):
    """True if the any value is a text or None."""
    return value is None or isinstance(value, str)
