"""Maps written as texts, one for each place, and read from them."""

from mapround.errors import BadRow
from mapround.turns import map_of

BARE_PLACE = "."
FIGURES = "0123456789"
MOST_FIGURES = 60


def row_of(turn):
    """The text of a place with that turn."""
    if len(turn) == 0:
        return BARE_PLACE
    return " ".join([str(end) for end in turn])


def shown(m):
    """The texts of all places of the map, in order."""
    return [row_of(turn) for turn in m]


def is_written_end(word):
    """Whether the word is a road end as it is written."""
    figures = word[1:] if word.startswith("-") else word
    # Too many figures are refused by their number alone: Python refuses to
    # make a whole number of some thousands of them.
    if len(figures) == 0 or len(figures) > MOST_FIGURES or figures.startswith("0"):
        return False
    # Figures of other scripts would pass isdigit, so the ten are asked for.
    return all([sign in FIGURES for sign in figures])


def is_row(row):
    """Whether the text is written as the text of a place is."""
    return row == BARE_PLACE or all([is_written_end(word) for word in row.split(" ")])


def turn_in(row):
    """The turn that a rightly written text tells, in the order in which it tells it."""
    if row == BARE_PLACE:
        return []
    return [int(word) for word in row.split(" ")]


def read(rows):
    """The map that the texts tell, in good order; refused where they tell none."""
    turns = []
    for number, row in enumerate(rows):
        if not is_row(row):
            raise BadRow(number)
        turns.append(turn_in(row))
    return map_of(turns)
