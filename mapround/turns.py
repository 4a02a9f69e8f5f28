"""Road ends, their turns round the places, and maps in good order."""

from mapround.errors import Lone, MapError, NoEnd, NotThere, TooMany, Twice

MOST_ENDS = 128
MOST_BARE_PLACES = 128


def is_end(number):
    """Whether a whole number is a road end: not 0, of at most sixty figures."""
    return number != 0 and abs(number) < 10 ** 60


def turned(ends):
    """The turn in good order, as a new list: it begins with its least end."""
    if len(ends) == 0:
        return []
    start = ends.index(min(ends))
    return ends[start:] + ends[:start]


def told_ends(turns):
    """All numbers of the turns, in the order in which they are told."""
    told = []
    for turn in turns:
        told.extend(turn)
    return told


def refuse_no_end(told):
    """Refuse the first number that is no road end."""
    for number in told:
        if not is_end(number):
            raise NoEnd(number)


def refuse_twice(told):
    """Refuse the first end that was told before."""
    known = {}
    for end in told:
        if end in known:
            raise Twice(end)
        known[end] = True


def refuse_lone(told):
    """Refuse the first end whose other end is nowhere told."""
    known = {}
    for end in told:
        known[end] = True
    for end in told:
        if -end not in known:
            raise Lone(end)


def refuse_too_many(turns):
    """Refuse turns that have too many ends, or too many places without roads."""
    if len(told_ends(turns)) > MOST_ENDS:
        raise TooMany()
    if turns.count([]) > MOST_BARE_PLACES:
        raise TooMany()


def in_good_order(turns):
    """The turns of a map in good order, all of them new lists; nothing is refused."""
    return sorted([turned(turn) for turn in turns])


def map_of(turns):
    """The map that the turns tell, in good order; refused where they tell none."""
    told = told_ends(turns)
    # Each check goes through all turns ahead of the next one, since a refusal
    # that is named earlier comes first wherever its number stands.
    refuse_no_end(told)
    refuse_twice(told)
    refuse_lone(told)
    refuse_too_many(turns)
    return in_good_order(turns)


def is_map(turns):
    """Whether the turns are a map in good order."""
    try:
        ordered = map_of(turns)
    except MapError:
        return False
    return ordered == turns


def ends_of(m):
    """All road ends, sorted."""
    return sorted(told_ends(m))


def roads_of(m):
    """All roads, sorted, each told by its end above 0."""
    return [end for end in ends_of(m) if end > 0]


def places_at(m):
    """For each end the number of its place."""
    places = {}
    for place, turn in enumerate(m):
        for end in turn:
            places[end] = place
    return places


def nexts(m):
    """For each end the end after it in its turn."""
    following = {}
    for turn in m:
        for end, behind in zip(turn, turn[1:] + turn[:1]):
            following[end] = behind
    return following


def after(m, end):
    """The end after this one in its turn."""
    following = nexts(m)
    if end not in following:
        raise NotThere(end)
    return following[end]


def before(m, end):
    """The end that this one comes after in its turn."""
    for ahead, behind in nexts(m).items():
        if behind == end:
            return ahead
    raise NotThere(end)
