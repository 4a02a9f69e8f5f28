"""Neighbours, chains of two colours, and maps without handles coloured with five colours."""

from mapround.lands import lands
from mapround.turns import places_at
from mapround.walks import refuse_crossed

MANY_COLOURS = 5


def led_to(turn, place_of, place):
    """The places to which the ends of the place's turn lead, each once, but the place itself."""
    found = {}
    for end in turn:
        there = place_of[-end]
        if there != place:
            found[there] = True
    # A dict keeps the order in which its keys came first.
    return list(found)


def neighbours(m):
    """For each place its neighbours, in the order in which its turn first leads to them."""
    place_of = places_at(m)
    return [led_to(turn, place_of, place) for place, turn in enumerate(m)]


def chain_among(near, colours, place, a, b):
    """The chain of a place by two colours, near being the neighbours of each place."""
    known = {place: True}
    waiting = [place]
    while len(waiting) > 0:
        here = waiting.pop()
        for there in near[here]:
            if there not in known and colours[there] in (a, b):
                known[there] = True
                waiting.append(there)
    return sorted(known)


def chain(m, colours, place, a, b):
    """The chain of a place by two colours, as a sorted list of places."""
    return chain_among(neighbours(m), colours, place, a, b)


def has_few(near, left, place):
    """Whether the place has at most five neighbours among the places that are left."""
    return len([there for there in near[place] if there in left]) <= MANY_COLOURS


def first_to_go(near, left):
    """Of the places that are left the first one with few neighbours; without handles there is one."""
    return [place for place in left if has_few(near, left, place)][0]


def taken_out(near):
    """All places in the order in which they are taken out."""
    order = []
    left = list(range(len(near)))
    while len(left) > 0:
        place = first_to_go(near, left)
        order.append(place)
        left.remove(place)
    return order


def rarest(colours, barred):
    """Of the five colours that are not barred the one that the fewest places have, or None."""
    free = [colour for colour in range(MANY_COLOURS) if colour not in barred]
    # Of several such colours the first one is given, which is the least.
    return min(free, key=lambda colour: colours.count(colour), default=None)


def change_chain(colours, places, a, b):
    """The colours with a and b changed for each other at these places."""
    changed = list(colours)
    for place in places:
        changed[place] = b if colours[place] == a else a
    return changed


def turn_to_free(near, colours, laid):
    """The turn of a chain that frees a colour, laid being five neighbours of five colours."""
    one = colours[laid[0]]
    three = colours[laid[2]]
    if laid[2] not in chain_among(near, colours, laid[0], one, three):
        return ("turn", laid[0], one, three)
    # The chain from the first to the third parts the second from the fourth.
    return ("turn", laid[1], colours[laid[1]], colours[laid[3]])


def steps_to_lay(near, colours, place):
    """The steps by which a place is laid: one, or two where no colour is free for it."""
    laid = [there for there in near[place] if colours[there] is not None]
    free = rarest(colours, [colours[there] for there in laid])
    if free is not None:
        return [("lay", place, free)]
    turn = turn_to_free(near, colours, laid)
    return [turn, ("lay", place, turn[2])]


def behind_step(near, colours, step):
    """The colours behind a step of the log."""
    if step[0] == "turn":
        places = chain_among(near, colours, step[1], step[2], step[3])
        return change_chain(colours, places, step[2], step[3])
    changed = list(colours)
    changed[step[1]] = step[2]
    return changed


def coloured(m):
    """The colours of the places of a map without handles, and the log of how they came."""
    refuse_crossed(m)
    near = neighbours(m)
    colours = [None for place in m]
    log = []
    for place in reversed(taken_out(near)):
        for step in steps_to_lay(near, colours, place):
            colours = behind_step(near, colours, step)
            log.append(step)
    return (colours, log)


def lands_coloured(m):
    """The colours of the lands, in the order in which the other map has them as places."""
    return coloured(lands(m))[0]
