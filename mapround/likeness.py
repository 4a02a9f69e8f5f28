"""Maps laid upon each other or told apart, and maps laid upon themselves."""

from mapround.codes import codes, least_code, least_round, round_code, round_ends
from mapround.pieces import pieces, refuse_not_one_piece


def by_codes(m):
    """The pieces in the order of their codes, those of like codes as they are told."""
    # Sorting leaves things of like keys in the order in which they came.
    return sorted(pieces(m), key=least_code)


def laying(m, n):
    """The laying of a map upon one that has the same codes."""
    pairs = []
    for one, two in zip(by_codes(m), by_codes(n)):
        pairs.extend(list(zip(least_round(one), least_round(two))))
    return sorted(pairs)


def least_apart(ones, others):
    """The least code that is in one list of codes another number of times than in the other list."""
    return min([code for code in ones + others if ones.count(code) != others.count(code)])


def compared(m, n):
    """Whether the maps are alike, with a laying, or else the code that tells them apart."""
    ones = codes(m)
    others = codes(n)
    if ones == others:
        return ("alike", laying(m, n))
    code = least_apart(ones, others)
    return ("unlike", code, ones.count(code), others.count(code))


def own_turns(m):
    """All layings of a map of one piece upon itself, sorted."""
    refuse_not_one_piece(m)
    if len(m[0]) == 0:
        return [[]]
    # In a piece a laying is settled by where it lays one end, so any one end will do.
    start = m[0][0]
    code = round_code(m, start)
    ends = round_ends(m, start)
    return sorted([sorted(zip(ends, round_ends(m, end))) for end in ends if round_code(m, end) == code])
