"""Maps and changes that the tests make, and a second reckoning to hold the program against.

Nothing here asks the program for a map: a map is reckoned as a dict that gives
for each end the end after it, and a number of places without roads. What is told
of a map is reckoned here as straight from the words of the points as can be.
"""

import functools
import itertools
import random
import re

from mapround.changes import Cut, Draw, Found, Part, Put, Raze
from mapround.errors import MapError

MOST = 128


def answer(function, *things):
    """What is given, or the refusal's class with its fields."""
    try:
        return function(*things)
    except MapError as error:
        return refusal(type(error).__name__, **vars(error))


def refusal(name, **fields):
    return ("refused", name, fields)


def is_refusal(given):
    return isinstance(given, tuple) and given[:1] == ("refused",)


def fresh(m):
    return [list(turn) for turn in m]


def ends_in(m):
    return [end for turn in m for end in turn]


def bare_in(m):
    return len([turn for turn in m if not turn])


def following_in(m):
    return {turn[k - 1]: turn[k] for turn in m for k in range(len(turn))}


def map_by(following, bare):
    """The map in good order with these ends after each other."""
    turns = [[] for _ in range(bare)]
    left = set(following)
    while left:
        turn = [min(left)]
        while following[turn[-1]] != turn[0]:
            turn.append(following[turn[-1]])
        left -= set(turn)
        turns.append(turn)
    return sorted(turns)


def other_by_steps(m):
    following = following_in(m)
    return map_by({end: following[-end] for end in following}, bare_in(m))


def mirror_by_steps(m):
    return map_by({behind: end for end, behind in following_in(m).items()}, bare_in(m))


def pieces_by_names(m):
    """The pieces, found by giving the places of each road one name, until no name changes."""
    names, before = list(range(len(m))), None
    roads = [(place_with(m, end), place_with(m, -end)) for end in ends_in(m)]
    while names != before:
        before = list(names)
        for one, two in roads:
            names[one] = names[two] = min(names[one], names[two])
    return [[m[k] for k in range(len(m)) if names[k] == name] for name in sorted(set(names))]


def breaks_a_bound(m):
    return len(ends_in(m)) > MOST or bare_in(m) > MOST


def put_by_steps(m, road, first, second):
    """What the put tells, or its refusal."""
    following = following_in(m)
    bare = bare_in(m)
    if road in following:
        return refusal("Taken", road=road)
    for end, spot in ((road, first), (-road, second)):
        if spot is None:
            if bare == 0:
                return refusal("NoPlace")
            bare -= 1
            following[end] = end
        elif spot in following:
            following[end] = following[spot]
            following[spot] = end
        else:
            return refusal("NotThere", end=spot)
    told = map_by(following, bare)
    return refusal("TooMany") if breaks_a_bound(told) else told


def cut_by_steps(m, road):
    if road not in ends_in(m):
        return refusal("NotThere", end=road)
    following = following_in(m)
    bare = bare_in(m)
    for gone in (road, -road):
        ahead = [end for end in following if following[end] == gone][0]
        if ahead == gone:
            bare += 1
        following[ahead] = following[gone]
        del following[gone]
    told = map_by(following, bare)
    return refusal("TooMany") if breaks_a_bound(told) else told


def round_from(turn, end):
    """The other ends of the turn, from the one after this end to the one before it."""
    start = turn.index(end)
    return turn[start + 1:] + turn[:start]


def draw_by_turns(m, road):
    """What the draw tells, by what becomes of the places of its two ends, or its refusal."""
    if road not in ends_in(m):
        return refusal("NotThere", end=road)
    one, two = ([turn for turn in m if end in turn][0] for end in (road, -road))
    rest = [turn for turn in m if road not in turn and -road not in turn]
    if one == two:
        ends = round_from(one, road)
        cut = ends.index(-road)
        rest += [ends[:cut], ends[cut + 1:]]
    else:
        rest += [round_from(one, road) + round_from(two, -road)]
    told = map_by(following_in(rest), bare_in(rest))
    return refusal("TooMany") if breaks_a_bound(told) else told


def part_by_steps(m, road, first, second):
    told = put_by_steps(other_by_steps(m), road, first, second)
    return told if is_refusal(told) else other_by_steps(told)


def found_by_steps(m):
    told = [[]] + m
    return refusal("TooMany") if breaks_a_bound(told) else told


def raze_by_steps(m):
    return m[1:] if bare_in(m) else refusal("NoPlace")


BY_STEPS = {
    Put: put_by_steps, Cut: cut_by_steps, Part: part_by_steps,
    Draw: draw_by_turns, Found: found_by_steps, Raze: raze_by_steps,
}


def changed_by_steps(change, m):
    """What the change is to tell of the map, or its refusal."""
    return BY_STEPS[type(change)](m, *change.told()[1:])


def all_maps(roads, bare=0):
    """Each map with the roads 1 to that number and that many places without roads."""
    ends = [sign * road for road in range(1, roads + 1) for sign in (-1, 1)]
    for behind in itertools.permutations(ends):
        yield map_by(dict(zip(ends, behind)), bare)


def small_maps():
    """Each map of at most two roads and two places without roads, and some of three roads."""
    for roads, bare in itertools.product(range(3), range(3)):
        yield from all_maps(roads, bare)
    yield from itertools.islice(all_maps(3, 1), 0, None, 29)


def all_changes(m):
    """Changes of each kind, done and refused ones, for a map of few roads."""
    ends = ends_in(m)
    yield from (Found(), Raze())
    for road in (1, 2, 5, 10 ** 60 - 1):
        yield from (Cut(road), Draw(road))
    spots = [None, 0, 5, -5, 9] + ends
    for kind, first, second in itertools.product((Put, Part), spots, spots):
        yield kind(5, first, second)
    yield from (kind(1, first, None) for kind in (Put, Part) for first in (None, 1, 9))


def some_change(dice, m):
    """A change of any kind that chance tells, most often one that is not refused."""
    ends = ends_in(m)
    kind = dice.choice([Put, Put, Put, Cut, Part, Part, Part, Draw, Found, Found, Raze])
    if kind in (Found, Raze):
        return kind()
    if kind in (Cut, Draw):
        return kind(dice.choice([abs(end) for end in ends] + [99]))
    road = dice.choice([road for road in range(1, 90) if road not in ends])
    return kind(road, dice.choice(ends + [None]), dice.choice(ends + [None, road]))


def chain(seed, length):
    """A map and changes that can be done to it one after another."""
    dice = random.Random(seed)
    start = [[] for _ in range(dice.randrange(6))]
    m, changes = start, []
    while len(changes) < length:
        change = some_change(dice, m)
        told = changed_by_steps(change, m)
        if not is_refusal(told):
            changes.append(change)
            m = told
    return fresh(start), changes


def lone_roads(first, last):
    """A map of roads each of which leads from a place of its own to another one."""
    return sorted([sign * road] for road in range(first, last + 1) for sign in (-1, 1))


def looped_roads(first, last):
    """A map of roads each of which leads from a place of its own to itself."""
    return sorted([-road, road] for road in range(first, last + 1))


def handed_round(n):
    """A map of one place with n handles and two roads for each."""
    return map_by(following_in([[end for k in range(1, 2 * n, 2) for end in (k, k + 1, -k, -k - 1)]]), 0)


def ring(n):
    """A map of n places, each with a road to the next one, and one from the last to the first."""
    return map_by(following_in([[k, -(k - 1) if k > 1 else -n] for k in range(1, n + 1)]), 0)


def way(n):
    """A map of n roads one behind another."""
    return map_by(following_in([[1]] + [[-k, k + 1] for k in range(1, n)] + [[-n]]), 0)


def star(n):
    """A map of a place with n roads, each to a place of its own."""
    return map_by(following_in([list(range(1, n + 1))] + [[-k] for k in range(1, n + 1)]), 0)


def loops_at_one_place(n):
    """A map of one place with n roads from it to itself, side by side."""
    return map_by(following_in([[end for k in range(1, n + 1) for end in (k, -k)]]), 0)


def prism(n):
    """A map of two rings of n places, one within the other, with a road between each two of them."""
    turns = []
    for k in range(n):
        inner, outer, between, behind = k + 1, n + k + 1, 2 * n + k + 1, (k - 1) % n + 1
        turns += [[between, inner, -behind], [outer, -between, -(n + behind)]]
    return map_by(following_in(turns), 0)


def wrapped_grid(wide, high):
    """A map of rows and columns of places that come round again both ways, so with one handle."""
    turns = []
    for x, y in itertools.product(range(wide), range(high)):
        right, left = y * wide + x + 1, y * wide + (x - 1) % wide + 1
        up, down = wide * high + right, wide * high + (y - 1) % high * wide + x + 1
        turns.append([right, up, -left, -down])
    return map_by(following_in(turns), 0)


def renamed(m, names):
    """The map with other names of its ends: names gives for each road the end that stands for it."""
    def name(end):
        return names[end] if end > 0 else -names[-end]
    return map_by({name(end): name(behind) for end, behind in following_in(m).items()}, bare_in(m))


def shuffled(m, seed):
    """The map with names of its roads that chance tells."""
    dice = random.Random(seed)
    roads = sorted(end for end in ends_in(m) if end > 0)
    drawn = dice.sample(range(1, 3 * len(roads) + 1), len(roads))
    return renamed(m, {road: dice.choice((1, -1)) * new for road, new in zip(roads, drawn)})


def apart(m, step):
    """The map with each road's number raised by that step."""
    return renamed(m, {road: road + step for road in ends_in(m) if road > 0})


def together(*maps):
    """One map of maps without a road in common."""
    return sorted(turn for m in maps for turn in m)


def merged(sets):
    """Sets that have something in common made one."""
    found = []
    for one in sets:
        touching = [other for other in found if other & one]
        found = [other for other in found if not other & one] + [set(one).union(*touching)]
    return found


def place_with(m, end):
    return [place for place, turn in enumerate(m) if end in turn][0]


def piece_count(m):
    places = {end: place for place, turn in enumerate(m) for end in turn}
    return len(merged([{place} for place in range(len(m))] + [{places[end], places[-end]} for end in places]))


def handle_count(m):
    return (2 * piece_count(m) - len(m) + len(ends_in(m)) // 2 - len(other_by_steps(m))) // 2


def round_by_list(m, end):
    """The turns of the round, by looking for each other end in the list of what was put there."""
    turns = [[end] + round_from(m[place_with(m, end)], end)]
    ends = list(turns[0])
    for told in ends:
        if -told not in ends:
            turns.append([-told] + round_from(m[place_with(m, -told)], -told))
            ends += turns[-1]
    return turns


def code_by_list(m, end):
    turns = round_by_list(m, end)
    ends = ends_in(turns)
    return tuple(tuple(ends.index(-told) for told in turn) for turn in turns)


def least_by_list(m):
    """The code of a map of one piece, and the least end whose round has it, None without ends."""
    return min([(code_by_list(m, end), end) for end in ends_in(m)], default=(((),), None))


def is_laying(m, n, laying):
    """Whether the tuples lay m upon n, road end for road end, with all turns kept."""
    upon = dict(laying)
    following, there = following_in(m), following_in(n)
    return (
        [end for end, _ in laying] == sorted(following)
        and sorted(upon.values()) == sorted(there)
        and all(upon[-end] == -upon[end] and upon[following[end]] == there[upon[end]] for end in following)
    )


def laying_from(m, n, end, upon):
    """The laying of a map of one piece upon another one that lays that end so, or None."""
    following, there = following_in(m), following_in(n)
    laid = {end: upon}
    waiting = [end]
    while waiting:
        one = waiting.pop()
        for step, spot in ((-one, -laid[one]), (following[one], there[laid[one]])):
            if step not in laid:
                laid[step] = spot
                waiting.append(step)
    laying = sorted(laid.items())
    return laying if is_laying(m, n, laying) else None


def layings_by_steps(m, n):
    """All layings of a map of one piece upon another one."""
    if not ends_in(m) or not ends_in(n):
        return [[]] if m == n else []
    found = [laying_from(m, n, ends_in(m)[0], upon) for upon in ends_in(n)]
    return sorted(laying for laying in found if laying is not None)


def alike_by_trial(m, n):
    """Whether there is a laying, each way to lay the ends being tried, and as many bare places."""
    ends = sorted(ends_in(m))
    others = ends_in(n)
    if len(ends) != len(others) or bare_in(m) != bare_in(n):
        return False
    return any(is_laying(m, n, list(zip(ends, upon))) for upon in itertools.permutations(others))


def alike_by_pieces(m, n):
    """Whether each piece can be laid upon one of the other map, without any code."""
    left = pieces_by_names(n)
    for piece in pieces_by_names(m):
        fitting = [other for other in left if layings_by_steps(piece, other)]
        if not fitting:
            return False
        left.remove(fitting[0])
    return not left


def coded_pieces(m):
    """The pieces behind their codes and least ends, by codes, those of like codes as they are told."""
    coded = [(least_by_list(piece), k, piece) for k, piece in enumerate(pieces_by_names(m))]
    return sorted(coded, key=lambda told: (told[0][0], told[1]))


def compared_by_list(m, n):
    """What is told of two maps, by the codes that are reckoned here."""
    ones, others = ([told[0][0] for told in coded_pieces(each)] for each in (m, n))
    for code in sorted(set(ones + others)):
        if ones.count(code) != others.count(code):
            return ("unlike", code, ones.count(code), others.count(code))
    laying = []
    for ((_, end), _, one), ((_, upon), _, two) in zip(coded_pieces(m), coded_pieces(n)):
        if end is not None:
            laying += laying_from(one, two, end, upon)
    return ("alike", sorted(laying))


def bridges_by_pieces(m):
    """The roads without which there is one piece more, each of them taken out."""
    found = []
    for road in sorted(end for end in ends_in(m) if end > 0):
        without = [[end for end in turn if abs(end) != road] for turn in m]
        if piece_count(without) == piece_count(m) + 1:
            found.append(road)
    return found


def groups_by_roads(m, place):
    """The roads at the place, those with another place in common made one group."""
    sets = [{abs(end) for end in turn} for k, turn in enumerate(m) if k != place and turn]
    at_place = {abs(end) for end in m[place]}
    found = merged([{road} for road in at_place] + sets)
    return sorted(sorted(one & at_place) for one in found if one & at_place)


def walk_by_steps(m):
    """The walk, going down a place by being asked for it."""
    things = []
    known = {0}

    def go(place, came_by):
        ends = m[place] if came_by is None else round_from(m[place], came_by)
        for end in ends:
            there = place_with(m, -end)
            if there not in known:
                known.add(there)
                things.append(("down", end))
                go(there, -end)
                things.append(("up", -end))
            else:
                things.append(("side", end))
    go(0, None)
    return things


def opened_and_closed(things):
    """For each side road where along the walk it is opened and closed."""
    at = {}
    for spot, (word, end) in enumerate(things):
        if word == "side":
            at.setdefault(abs(end), []).append(spot)
    return at


def do_cross(at, one, two):
    """Whether two side roads cross, whichever is opened first."""
    (a, b), (c, d) = sorted([at[one], at[two]])
    return a < c < b < d


def crossing_by_spots(things):
    """The crossing of a walk, or None."""
    at = opened_and_closed(things)
    for road in sorted(at, key=lambda told: at[told][1]):
        behind = [other for other in at if at[road][0] < at[other][0] < at[road][1] < at[other][1]]
        if behind:
            return (road, max(behind, key=lambda told: at[told][0]))
    return None


def rank_of_crossings(things):
    """The rank, by even and odd, of the table of the side roads that cross."""
    at = opened_and_closed(things)
    rows = [sum(1 << k for k, two in enumerate(at) if two != one and do_cross(at, one, two)) for one in at]
    rank = 0
    while rows:
        row = rows.pop()
        if row:
            rank += 1
            low = row & -row
            rows = [other ^ row if other & low else other for other in rows]
    return rank


def corners(m):
    """The lands as lists of ends: the corner that follows each of these ends lies in that land."""
    following = following_in(m)
    onward = {end: -following[end] for end in following}
    return map_by(onward, 0)


def flat_map(seed, places, roads, simple=True):
    """A map of one piece without handles, each road of which lies within one land of those before it.

    A simple one has no road from a place to itself and no two roads between the same places, so it may
    have fewer roads than asked for.
    """
    dice = random.Random(seed)
    m = [[] for _ in range(places)]
    for road in range(1, places):
        m = put_by_steps(m, road, dice.choice(ends_in(m)) if ends_in(m) else None, None)
    for road in range(places, roads + 1):
        place = {end: number for number, turn in enumerate(m) for end in turn}
        joined = {(place[end], place[-end]) for end in place} | {(number, number) for number in range(places)}
        spots = [pair for land in corners(m) for pair in itertools.product(land, land)]
        if simple:
            spots = [pair for pair in spots if (place[pair[0]], place[pair[1]]) not in joined]
        if not spots:
            break
        m = put_by_steps(m, road, *dice.choice(spots))
    return m


def flat_maps():
    """Maps without handles of all kinds: small ones, ones of several pieces, and ones behind changes."""
    for m in itertools.chain(small_maps(), itertools.islice(all_maps(3), 0, None, 3)):
        if handle_count(m) == 0:
            yield m
    yield from (prism(4), ring(6), way(6), star(5), star(7), loops_at_one_place(4))
    for seed in range(300, 330):
        one, two = flat_map(seed, 2 + seed % 7, 9, False), flat_map(seed, 3 + seed % 11, 40)
        yield shuffled(one, seed)
        yield shuffled(two, seed)
        yield shuffled(together([[]] * (seed % 3), one, apart(two, 10)), seed)
    for seed in range(330, 390):
        _, m = chain_end(seed, 25)
        if handle_count(m) == 0:
            yield m


def chain_end(seed, length):
    """A map, and the map behind changes that can be done to it one after another."""
    start, changes = chain(seed, length)
    m = start
    for change in changes:
        m = changed_by_steps(change, m)
    return start, m


def drawn_by_cells(piece):
    """The drawing of one piece, each cell being asked what stands there."""
    things = walk_by_steps(piece)
    if not things:
        return ["="]
    spots = {end: spot for spot, (_, end) in enumerate(things)}
    came_down = {place_with(piece, -end): end for word, end in things if word == "down"}
    at = opened_and_closed(things)

    @functools.cache
    def depth(place):
        return 1 + depth(place_with(piece, came_down[place])) if place else 0

    @functools.cache
    def height(road):
        within = [other for other in at if at[road][0] < at[other][0] and at[other][1] < at[road][1]]
        return 1 + max([height(other) for other in within], default=0)

    deepest = max(depth(place) for place in range(len(piece)))
    width = 2 * len(ends_in(piece)) - 1
    bars = {(0, 0, width - 1)}
    bars |= {(2 * depth(place), 2 * spots[end], 2 * spots[-end]) for place, end in came_down.items()}
    levels = {(2 * deepest + height(road), 2 * one, 2 * two) for road, (one, two) in at.items()}

    def sign(row, cell):
        if any(row == bar and left <= cell <= right for bar, left, right in bars):
            return "="
        for level, left, right in levels:
            if row == level and left <= cell <= right:
                return {left: "L", right: "J"}.get(cell, "-")
        if cell % 2 == 0:
            word, end = things[cell // 2]
            below = 2 * depth(place_with(piece, end)) + 1
            if word == "down" and row == below:
                return "|"
            if word == "side" and below <= row < 2 * deepest + height(abs(end)):
                return "|"
        return " "
    high = 2 * deepest + 1 + max([height(road) for road in at], default=0)
    return ["".join(sign(row, cell) for cell in range(width)) for row in range(high)]


def drawing_by_cells(m):
    sheets = [drawn_by_cells(piece) for piece in pieces_by_names(m)]
    high = max([len(rows) for rows in sheets], default=0)
    full = [rows + [" " * len(rows[0])] * (high - len(rows)) for rows in sheets]
    return [" ".join(parts) for parts in zip(*full)]


# Where each sign of a road goes on: as steps to another row and to another cell.
GOES_ON = {"|": [(-1, 0), (1, 0)], "L": [(-1, 0), (0, 1)], "J": [(-1, 0), (0, -1)], "-": [(0, -1), (0, 1)]}


def road_along(signs, bar, cell, step):
    """The cells of a road that leaves a bar there, up or down, and the bar to which it comes at last."""
    cells = []
    here = (bar + step[0], cell + step[1])
    while signs[here] != "=":
        ways = GOES_ON[signs[here]]
        back = (-step[0], -step[1])
        if back not in ways or here in cells:
            raise AssertionError(f"the road breaks off at {here}")
        cells.append(here)
        step = ways[1 - ways.index(back)]
        here = (here[0] + step[0], here[1] + step[1])
    if step[0] == 0:
        raise AssertionError(f"the road comes to the side of a bar at {here}")
    return cells, here


def looked_at(rows):
    """The bars of a drawing, each with its row, the columns below it and those above it; and the roads.

    A road is told by its both ends, as tuples of column and bar's row, the one further left or up first.
    Each road is followed cell by cell, and it is an error where two have a cell in common, or one breaks off.
    """
    signs = {(row, cell): sign for row, text in enumerate(rows) for cell, sign in enumerate(text)}
    bars, roads, known = [], set(), {}
    for row, text in enumerate(rows):
        for bar in re.finditer("=+", text):
            columns = {1: [], -1: []}
            for cell, step in itertools.product(range(bar.start(), bar.end()), (1, -1)):
                # A road below the bar goes on upward to it, and one above the bar goes on downward.
                if (-step, 0) in GOES_ON.get(signs.get((row + step, cell)), []):
                    columns[step].append(cell)
                    cells, last = road_along(signs, row, cell, (step, 0))
                    road = tuple(sorted([(cell, row), last[::-1]]))
                    roads.add(road)
                    if any(known.setdefault(one, road) != road for one in cells):
                        raise AssertionError(f"two roads meet: {road}")
            bars.append((row, columns[1], columns[-1]))
    loose = [cell for cell, sign in signs.items() if sign not in " =" and cell not in known]
    if loose or not set("".join(rows)) <= set(" =|-LJ"):
        raise AssertionError(f"these cells are of no road: {loose}")
    return bars, sorted(roads)


def seen_by_looking(rows):
    """The map that is seen, every road followed from bar to bar."""
    bars, roads = looked_at(rows)
    ends = {}
    for number, (one, two) in enumerate(roads, 1):
        ends[one], ends[two] = number, -number
    turns = [[ends[cell, row] for cell in below + above] for row, below, above in bars]
    return map_by(following_in(turns), bare_in(turns))


def told_by_columns(m, rows):
    """The map that is seen in its drawing, each end called by the thing of the walk that has its column."""
    downward, left = {}, 0
    for piece in pieces_by_names(m):
        things = walk_by_steps(piece)
        downward.update({left + 2 * spot: end for spot, (_, end) in enumerate(things)})
        left += 2 * max(len(things), 1)
    turns = [[downward[cell] for cell in below] + [-downward[cell] for cell in above]
             for _, below, above in looked_at(rows)[0]]
    return map_by(following_in(turns), bare_in(turns))


def neighbours_by_roads(m):
    return [list(dict.fromkeys(place_with(m, -end) for end in turn if -end not in turn)) for turn in m]


def chain_by_growth(m, colours, place, a, b):
    near = neighbours_by_roads(m)
    known = {place}
    while True:
        grown = known | {there for here in known for there in near[here] if colours[there] in (a, b)}
        if grown == known:
            return sorted(known)
        known = grown


def taken_out_by_words(near):
    left, order = set(range(len(near))), []
    while left:
        order.append(min(place for place in left if len(left & set(near[place])) <= 5))
        left.remove(order[-1])
    return order


def coloured_by_words(m):
    """The colours and the log, with a dict of the laid places alone."""
    near, laid, log = neighbours_by_roads(m), {}, []
    for place in reversed(taken_out_by_words(near)):
        five = [there for there in near[place] if there in laid]
        free = set(range(5)) - {laid[there] for there in five}
        colour = min(free, key=lambda told: (sum(one == told for one in laid.values()), told), default=None)
        if colour is None:
            n1, n2, n3, n4, _ = five
            now = [laid.get(number) for number in range(len(m))]
            start, end = (n2, n4) if n3 in chain_by_growth(m, now, n1, laid[n1], laid[n3]) else (n1, n3)
            colour, other = laid[start], laid[end]
            log.append(("turn", start, colour, other))
            for one in chain_by_growth(m, now, start, colour, other):
                laid[one] = colour + other - laid[one]
        log.append(("lay", place, colour))
        laid[place] = colour
    return [laid[place] for place in range(len(m))], log


def colours_along(m, log):
    """The colours, None for a place that is not laid, behind each step of a log that is done here again."""
    colours = [None] * len(m)
    for step in log:
        if step[0] == "turn":
            places = chain_by_growth(m, colours, *step[1:])
            colours = [step[2] + step[3] - colour if place in places else colour
                       for place, colour in enumerate(colours)]
        else:
            colours = colours[:step[1]] + [step[2]] + colours[step[1] + 1:]
        yield colours


def grown_lists(length, many):
    """Each list of colours below that number in which a new colour is always the next one, in order."""
    lists = [[]]
    for _ in range(length):
        lists = [ahead + [colour] for ahead in lists for colour in range(many) if colour <= len(set(ahead))]
    return lists


def clashes(near, colours):
    """The pairs of places that have the same colour and not None, near being the neighbours of each place."""
    pairs = [(one, two) for one, beside in enumerate(near) for two in beside]
    return [(one, two) for one, two in pairs if colours[one] == colours[two] and colours[one] is not None]


def first_by_lists(near, many):
    """The first list of colours in which nothing clashes, or None."""
    return next((colours for colours in grown_lists(len(near), many) if not clashes(near, colours)), None)


def shows_that_none_does(near, many, tree, ahead=()):
    """Whether the tree is the whole tree of the place behind those with these colours."""
    place = len(ahead)
    if place == len(near) or not isinstance(tree, list):
        return False
    before = {}
    for there in sorted(near[place]):
        if there < place:
            before.setdefault(ahead[there], there)
    allowed = [colour for colour in range(many) if colour <= len(set(ahead))]
    return [colour for colour, _ in tree] == allowed and all(
        what == before[colour] if colour in before else shows_that_none_does(near, many, what, (*ahead, colour))
        for colour, what in tree
    )


def line_of(change):
    """The line of a desk that tells the change."""
    return " ".join("." if word is None else str(word) for word in change.told())


class MapsInARow:
    """What a desk has to show, by keeping each map: undo and redo only go along the row of them."""

    def __init__(self, m):
        self.maps, self.at = [m], 0

    def lies(self):
        return self.maps[self.at]

    def line(self, line, change):
        """Do what the line tells, the change being what it tells, if any; and tell its refusal, or None."""
        if line == "over":
            self.maps = [other_by_steps(m) for m in self.maps]
        elif line in ("undo", "redo"):
            spot = self.at + (1 if line == "redo" else -1)
            if spot not in range(len(self.maps)):
                return refusal("NoDeed")
            self.at = spot
        else:
            told = changed_by_steps(change, self.lies())
            if is_refusal(told):
                return told
            self.maps = self.maps[:self.at + 1] + [told]
            self.at += 1
        return None
