"""What the changes are made of: roads and places that come into a map and go out of it."""

from mapround.errors import NoPlace, NotThere, Taken
from mapround.turns import in_good_order, refuse_too_many, told_ends


def settled(turns):
    """The map of the turns that a change leaves behind; refused where it breaks a bound."""
    # No more is refused here: a road that a change brings is not asked for its figures.
    refuse_too_many(turns)
    return in_good_order(turns)


def spread(turn, end, spot):
    """The turn with the end put right after the end spot, if that one is in it."""
    if spot not in turn:
        return turn
    behind = turn.index(spot) + 1
    return turn[:behind] + [end] + turn[behind:]


def put_behind(turns, end, spot):
    """The turns with the end put right after the end spot; refused where spot is in none."""
    if spot not in told_ends(turns):
        raise NotThere(spot)
    return [spread(turn, end, spot) for turn in turns]


def put_alone(turns, end):
    """The turns with the end put into an empty one; refused where there is none."""
    if [] not in turns:
        raise NoPlace()
    bare = turns.index([])
    return turns[:bare] + [[end]] + turns[bare + 1:]


def put_end(turns, end, spot):
    """The turns with the end put right after the end spot, or alone where spot is None."""
    if spot is None:
        return put_alone(turns, end)
    return put_behind(turns, end, spot)


def with_road(m, road, first, second):
    """The map with a new road put in, its ends right after first and second."""
    if road in told_ends(m):
        raise Taken(road)
    # The road's own end is in the turns by the time second is looked for, and the
    # place that it took is bare no more.
    started = put_end(m, road, first)
    return settled(put_end(started, -road, second))


def thinned(turn, gone):
    """The turn without the ends that are gone."""
    return [end for end in turn if end not in gone]


def without_road(m, road):
    """The map with a road taken out."""
    if road not in told_ends(m):
        raise NotThere(road)
    return settled([thinned(turn, (road, -road)) for turn in m])


def end_ahead(turn, end):
    """The end before this one in its turn, or None where it is alone there."""
    if len(turn) == 1:
        return None
    # Ahead of the first end stands the last one, which is what the index -1 gives.
    return turn[turn.index(end) - 1]


def turn_with(m, end):
    """The turn in which an end of the map is."""
    return [turn for turn in m if end in turn][0]


def first_ahead(m, road):
    """Behind which end a road is to be put again when it was taken out, None for alone."""
    # The road's other end comes back later, so it can't be the one to be put behind.
    return end_ahead(thinned(turn_with(m, road), (-road,)), road)


def second_ahead(m, road):
    """Behind which end a road's other end is to be put again, None for alone."""
    return end_ahead(turn_with(m, -road), -road)


def with_place(m):
    """The map with one more place without roads."""
    return settled([[]] + m)


def without_place(m):
    """The map with one place without roads less."""
    if [] not in m:
        raise NoPlace()
    bare = m.index([])
    return in_good_order(m[:bare] + m[bare + 1:])
