"""Papers: what shows that one world does not come of another."""

from turnbehind.parts import arrows, ascending_part, check_like, name_spots, walker_names
from turnbehind.reaches import due, dues, is_shore, pointed, reach, region_of
from turnbehind.worlds import differing, place_of


def comes_of(start, end):
    """True if some history from start leads to end; raises Unlike."""
    return find_paper(start, end) is None


def find_paper(start, end):
    """The paper that end does not come of start, or None if it does; raises Unlike."""
    check_like(start, end)
    for place, one, other in zip(start[0][0], dues(start), dues(end)):
        if one != other:
            return ("due", place)
    within = reach(start)
    if leaves(start, end, within):
        return ("shore", within)
    for name, place in name_spots(end):
        home = region_of(start, place_of(start, name))
        if place not in home:
            return ("name", name, within, home)
    return None


def leaves(start, end, places):
    """True if some differing way does not have both ends among the places."""
    turned = differing(start, end)
    return any([way in turned and not (tail in places and head in places) for way, tail, head in arrows(start)])


def is_paper(start, end, paper):
    """True if the any value is a paper that end does not come of start; raises Unlike."""
    check_like(start, end)
    if not isinstance(paper, tuple):
        return False
    if len(paper) == 2 and paper[0] == "due":
        return paper[1] in start[0][0] and due(start, paper[1]) != due(end, paper[1])
    if len(paper) == 2 and paper[0] == "shore":
        return is_shore(start, paper[1]) and leaves(start, end, paper[1])
    if len(paper) == 4 and paper[0] == "name":
        return right_name_paper(start, end, paper)
    return False


def right_name_paper(start, end, paper):
    """True if the any values behind the word "name" tell a walker who would have left a side that none leaves."""
    _, name, shore, side = paper
    if name not in walker_names(start) or not shut(start, shore, side):
        return False
    return place_of(start, name) in side and place_of(end, name) not in side


def shut(world, shore, side):
    """True if one any value is a shore, and the other one some of its places that no way joins with its others."""
    if not is_shore(world, shore) or not ascending_part(side, shore):
        return False
    within = [(tail, head) for tail, head in pointed(world) if tail in shore and head in shore]
    return all([(tail in side) == (head in side) for tail, head in within])
