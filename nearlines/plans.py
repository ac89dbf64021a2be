"""Plans that tell beforehand which line goes at each touch, and the best of them."""

from nearlines.errors import BadPlan
from nearlines.lines import lines_of
from nearlines.whole import is_any_whole


def walked(touches, room, width, plan):
    """Give how many touches a plan misses, or refuse the plan with BadPlan."""
    if len(plan) != len(touches):
        raise BadPlan(f"a plan for {len(touches)} touches is not one of {len(plan)}")
    near = {}
    missed = 0
    for line, gone in zip(lines_of(touches, width), plan):
        _check_step(line, gone, near, room)
        if gone is not None:
            del near[gone]
        if line not in near:
            missed += 1
            near[line] = True
    return missed


def best(touches, room, width):
    """Give the plan that lets that line go which is touched again last."""
    lines = lines_of(touches, width)
    plan = []
    # Each line near with the place of its next touch.
    near = {}
    for line, place in zip(lines, _next_places(lines)):
        gone = None
        if _one_must_go(line, near, room):
            gone = _touched_last(near)
            del near[gone]
        plan.append(gone)
        near[line] = place
    return plan


def _one_must_go(line, near, room):
    """Tell whether a line goes at a touch of this one: it is missed while there is no room."""
    return line not in near and len(near) == room


def _check_step(line, gone, near, room):
    """Refuse with BadPlan what goes, or that none goes, at a touch of a line."""
    # The messages leave out both numbers: they may have more figures than can be shown.
    if _one_must_go(line, near, room):
        # Asked first: True and the like are no numbers of lines, though Python finds True where 1 is.
        if not is_any_whole(gone) or gone not in near:
            raise BadPlan("at a touch that is missed while there is no room, one of the lines near goes")
    elif gone is not None:
        raise BadPlan("at a touch that is found, or while there is room, no line goes")


def _next_places(lines):
    """Give for each of the lines the place where the same one stands next, or the end where it does not."""
    end = len(lines)
    coming = {}
    places = []
    for place in reversed(range(end)):
        line = lines[place]
        places.append(coming.get(line, end))
        coming[line] = place
    places.reverse()
    return places


def _touched_last(near):
    """Give the line near whose next touch is last; of several that have none, the one with the least number."""
    # Only lines that are not touched again share a place: the end.
    return min(near, key=lambda line: (-near[line], line))
