"""How deep each touch of a row of touches lies, and what is missed by that."""

from nearlines.lines import lines_of


def depths(touches, width):
    """Give the list of the depths of all touches."""
    told = []
    # The lines touched so far, that whose last touch is the longest ago first.
    order = []
    seen = set()
    for line in lines_of(touches, width):
        if line in seen:
            place = order.index(line)
            # Just the lines behind it were touched since.
            told.append(len(order) - 1 - place)
            del order[place]
        else:
            told.append(None)
            seen.add(line)
        order.append(line)
    return told


def missed_by(told, room):
    """Give how many touches of a list of depths are missed by the rule "least"."""
    return len([depth for depth in told if depth is None or depth >= room])
