"""Names, numbers, and sequences of names."""

from turnbehind.errors import BadName, BadNumber, Repeated

LETTERS = "abcdefghijklmnopqrstuvwxyz"
DIGITS = "0123456789"
MOST_SIGNS = 8


def is_name(value):
    """True if the any value is a name."""
    if not isinstance(value, str) or not 1 <= len(value) <= MOST_SIGNS:
        return False
    return value[0] in LETTERS and all([sign in LETTERS + DIGITS for sign in value])


def check_names(names):
    """Raises BadName for the first item that is not a name."""
    for name in names:
        if not is_name(name):
            raise BadName(name)


def whole(value):
    """True if the value is an integer; Python counts True and False as integers, the program does not."""
    return isinstance(value, int) and not isinstance(value, bool)


def check_number(number, low, high):
    """The number itself if it is an integer from low to high; otherwise raises BadNumber."""
    if whole(number) and low <= number <= high:
        return number
    raise BadNumber(number)


def first_repeated(names):
    """The first item that is equal to an earlier item, or None."""
    seen = set()
    for name in names:
        if name in seen:
            return name
        seen.add(name)
    return None


def check_once(names):
    """Raises Repeated for the first item that is equal to an earlier item."""
    name = first_repeated(names)
    if name is not None:
        raise Repeated(name)


def ascending(names):
    """The texts in ascending order, as a new list; raises Repeated."""
    check_once(names)
    return sorted(names)


def fresh_name(stem, taken):
    """The stem followed by the least integer that makes a name outside of taken; raises BadName."""
    if not is_name(stem):
        raise BadName(stem)
    number = 0
    while f"{stem}{number}" in taken:
        number += 1
    name = f"{stem}{number}"
    if not is_name(name):
        raise BadName(name)
    return name
