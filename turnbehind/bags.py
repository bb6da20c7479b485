"""Bags of walkers."""

from turnbehind.errors import Unknown
from turnbehind.names import ascending, check_names, check_number

MOST_ALIKE = 1000


class Bag:
    """A number of alike walkers and the names of named walkers; it never changes."""

    def __init__(self, alike=0, names=()):
        check_names(names)
        self._alike = check_number(alike, 0, MOST_ALIKE)
        self._named = tuple(ascending(names))

    @property
    def alike(self):
        """The number of alike walkers."""
        return self._alike

    @property
    def named(self):
        """The ascending tuple of the names."""
        return self._named

    @property
    def many(self):
        """The number of all walkers."""
        return self._alike + len(self._named)

    @property
    def pair(self):
        """The tuple of the number of alike walkers and the names."""
        return (self._alike, self._named)

    def __contains__(self, x):
        return x in self._named

    def __iter__(self):
        return iter(self._named)

    def __bool__(self):
        return self._alike + len(self._named) > 0

    def __add__(self, other):
        # The names come ascending, so the first repeated one is the least that both have.
        return Bag(self._alike + other._alike, self._named + other._named)

    def __sub__(self, other):
        alike = check_number(self._alike - other._alike, 0, MOST_ALIKE)
        for name in other._named:
            if name not in self._named:
                raise Unknown("walker", name)
        return Bag(alike, [name for name in self._named if name not in other._named])
