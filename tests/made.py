"""Maps and changes that the tests make, and a second reckoning to hold the program against.

Nothing here asks the program for a map: a map is reckoned as a dict that gives
for each end the end after it, and a number of places without roads.
"""

import itertools
import random

from mapround.changes import Cut, Draw, Found, Part, Put, Raze
from mapround.errors import MapError

MOST = 128


def answer(function, *things):
    """What is given, or the refusal's class with its fields."""
    try:
        return function(*things)
    except MapError as error:
        return refusal(type(error).__name__, **vars(error))


def refusal(name, **fields):
    return ("refused", name, fields)


def is_refusal(given):
    return isinstance(given, tuple) and given[:1] == ("refused",)


def fresh(m):
    return [list(turn) for turn in m]


def ends_in(m):
    return [end for turn in m for end in turn]


def bare_in(m):
    return len([turn for turn in m if not turn])


def following_in(m):
    return {turn[k - 1]: turn[k] for turn in m for k in range(len(turn))}


def map_by(following, bare):
    """The map in good order with these ends after each other."""
    turns = [[] for _ in range(bare)]
    left = set(following)
    while left:
        turn = [min(left)]
        while following[turn[-1]] != turn[0]:
            turn.append(following[turn[-1]])
        left -= set(turn)
        turns.append(turn)
    return sorted(turns)


def other_by_steps(m):
    following = following_in(m)
    return map_by({end: following[-end] for end in following}, bare_in(m))


def mirror_by_steps(m):
    return map_by({behind: end for end, behind in following_in(m).items()}, bare_in(m))


def pieces_by_names(m):
    """The pieces, found by giving the places of each road one name, again and again."""
    names = list(range(len(m)))
    for _ in m:
        for one, two in itertools.product(range(len(m)), repeat=2):
            if any(-end in m[two] for end in m[one]):
                names[one] = names[two] = min(names[one], names[two])
    return [[m[k] for k in range(len(m)) if names[k] == name] for name in sorted(set(names))]


def breaks_a_bound(m):
    return len(ends_in(m)) > MOST or bare_in(m) > MOST


def put_by_steps(m, road, first, second):
    """What the put tells, or its refusal."""
    following = following_in(m)
    bare = bare_in(m)
    if road in following:
        return refusal("Taken", road=road)
    for end, spot in ((road, first), (-road, second)):
        if spot is None:
            if bare == 0:
                return refusal("NoPlace")
            bare -= 1
            following[end] = end
        elif spot in following:
            following[end] = following[spot]
            following[spot] = end
        else:
            return refusal("NotThere", end=spot)
    told = map_by(following, bare)
    return refusal("TooMany") if breaks_a_bound(told) else told


def cut_by_steps(m, road):
    if road not in ends_in(m):
        return refusal("NotThere", end=road)
    following = following_in(m)
    bare = bare_in(m)
    for gone in (road, -road):
        ahead = [end for end in following if following[end] == gone][0]
        if ahead == gone:
            bare += 1
        following[ahead] = following[gone]
        del following[gone]
    told = map_by(following, bare)
    return refusal("TooMany") if breaks_a_bound(told) else told


def round_from(turn, end):
    """The other ends of the turn, from the one after this end to the one before it."""
    start = turn.index(end)
    return turn[start + 1:] + turn[:start]


def draw_by_turns(m, road):
    """What the draw tells, by what becomes of the places of its two ends, or its refusal."""
    if road not in ends_in(m):
        return refusal("NotThere", end=road)
    one, two = ([turn for turn in m if end in turn][0] for end in (road, -road))
    rest = [turn for turn in m if road not in turn and -road not in turn]
    if one == two:
        ends = round_from(one, road)
        cut = ends.index(-road)
        rest += [ends[:cut], ends[cut + 1:]]
    else:
        rest += [round_from(one, road) + round_from(two, -road)]
    told = map_by(following_in(rest), bare_in(rest))
    return refusal("TooMany") if breaks_a_bound(told) else told


def part_by_steps(m, road, first, second):
    told = put_by_steps(other_by_steps(m), road, first, second)
    return told if is_refusal(told) else other_by_steps(told)


def found_by_steps(m):
    told = [[]] + m
    return refusal("TooMany") if breaks_a_bound(told) else told


def raze_by_steps(m):
    return m[1:] if bare_in(m) else refusal("NoPlace")


BY_STEPS = {
    Put: put_by_steps, Cut: cut_by_steps, Part: part_by_steps,
    Draw: draw_by_turns, Found: found_by_steps, Raze: raze_by_steps,
}


def changed_by_steps(change, m):
    """What the change is to tell of the map, or its refusal."""
    return BY_STEPS[type(change)](m, *change.told()[1:])


def all_maps(roads, bare=0):
    """Each map with the roads 1 to that number and that many places without roads."""
    ends = [sign * road for road in range(1, roads + 1) for sign in (-1, 1)]
    for behind in itertools.permutations(ends):
        yield map_by(dict(zip(ends, behind)), bare)


def small_maps():
    """Each map of at most two roads and two places without roads, and some of three roads."""
    for roads, bare in itertools.product(range(3), range(3)):
        yield from all_maps(roads, bare)
    yield from itertools.islice(all_maps(3, 1), 0, None, 29)


def all_changes(m):
    """Changes of each kind, done and refused ones, for a map of few roads."""
    ends = ends_in(m)
    yield from (Found(), Raze())
    for road in (1, 2, 5, 10 ** 60 - 1):
        yield from (Cut(road), Draw(road))
    spots = [None, 0, 5, -5, 9] + ends
    for kind, first, second in itertools.product((Put, Part), spots, spots):
        yield kind(5, first, second)
    yield from (kind(1, first, None) for kind in (Put, Part) for first in (None, 1, 9))


def some_change(dice, m):
    """A change of any kind that chance tells, most often one that is not refused."""
    ends = ends_in(m)
    kind = dice.choice([Put, Put, Put, Cut, Part, Part, Part, Draw, Found, Found, Raze])
    if kind in (Found, Raze):
        return kind()
    if kind in (Cut, Draw):
        return kind(dice.choice([abs(end) for end in ends] + [99]))
    road = dice.choice([road for road in range(1, 90) if road not in ends])
    return kind(road, dice.choice(ends + [None]), dice.choice(ends + [None, road]))


def chain(seed, length):
    """A map and changes that can be done to it one after another."""
    dice = random.Random(seed)
    start = [[] for _ in range(dice.randrange(6))]
    m, changes = start, []
    while len(changes) < length:
        change = some_change(dice, m)
        told = changed_by_steps(change, m)
        if not is_refusal(told):
            changes.append(change)
            m = told
    return fresh(start), changes


def lone_roads(first, last):
    """A map of roads each of which leads from a place of its own to another one."""
    return sorted([sign * road] for road in range(first, last + 1) for sign in (-1, 1))


def looped_roads(first, last):
    """A map of roads each of which leads from a place of its own to itself."""
    return sorted([-road, road] for road in range(first, last + 1))
