"""Maps without handles drawn on a sheet of cells, and maps that are seen in such drawings."""

from mapround.pieces import pieces
from mapround.turns import in_good_order
from mapround.walks import refuse_crossed, walk

BLANK = " "
BAR = "="
UPRIGHT = "|"
LEVEL = "-"
FIRST_CORNER = "L"
LAST_CORNER = "J"


def partners(things):
    """For each thing of a walk the number of the thing at the other end of its road."""
    spots = {}
    for spot, thing in enumerate(things):
        spots[thing[1]] = spot
    return [spots[-end] for word, end in things]


def depths(things):
    """For each thing of a walk the depth of the place at which its end is."""
    found = []
    depth = 0
    for word, end in things:
        found.append(depth)
        if word == "down":
            depth += 1
        elif word == "up":
            depth -= 1
    return found


def heights(things):
    """For each thing that closes a side road, told by its number, the height of that road."""
    found = {}
    for spot, opening in enumerate(partners(things)):
        if things[spot][0] == "side" and opening < spot:
            # No two roads cross, so what is closed between was opened between, too.
            within = [found[closing] for closing in range(opening, spot) if closing in found]
            found[spot] = 1 + max(within, default=0)
    return found


def mark_row(cells, row, left, right, sign):
    """Put the sign at all cells of a row from left to right, both with it."""
    for cell in range(left, right + 1):
        cells[(row, cell)] = sign


def mark_column(cells, cell, top, bottom, sign):
    """Put the sign at that cell of all rows from top to bottom, both with it."""
    for row in range(top, bottom + 1):
        cells[(row, cell)] = sign


def mark_places(cells, things):
    """Put the bars of all places, and the trunk roads between them."""
    depth_at = depths(things)
    mark_row(cells, 0, 0, 2 * len(things) - 2, BAR)
    for spot, back in enumerate(partners(things)):
        if things[spot][0] == "down":
            row = 2 * depth_at[spot]
            cells[(row + 1, 2 * spot)] = UPRIGHT
            mark_row(cells, row + 2, 2 * spot, 2 * back, BAR)


def mark_side_roads(cells, things):
    """Put the side roads, below all bars."""
    depth_at = depths(things)
    other = partners(things)
    for closing, height in heights(things).items():
        opening = other[closing]
        row = 2 * max(depth_at) + height
        mark_column(cells, 2 * opening, 2 * depth_at[opening] + 1, row - 1, UPRIGHT)
        mark_column(cells, 2 * closing, 2 * depth_at[closing] + 1, row - 1, UPRIGHT)
        mark_row(cells, row, 2 * opening, 2 * closing, LEVEL)
        cells[(row, 2 * opening)] = FIRST_CORNER
        cells[(row, 2 * closing)] = LAST_CORNER


def row_with(cells, row, width):
    """The text of a row, blank where no sign was put."""
    return "".join([cells.get((row, cell), BLANK) for cell in range(width)])


def drawn(piece):
    """The rows of the drawing of one piece."""
    things = walk(piece)
    if len(things) == 0:
        return [BAR]
    cells = {}
    mark_places(cells, things)
    mark_side_roads(cells, things)
    lowest = max([row for row, cell in cells])
    return [row_with(cells, row, 2 * len(things) - 1) for row in range(lowest + 1)]


def row_or_blanks(rows, number):
    """That row of a drawing, or blanks as wide as the drawing where it has no such row."""
    if number < len(rows):
        return rows[number]
    return BLANK * len(rows[0])


def row_across(sheets, number):
    """That row of several drawings side by side, with a blank between two."""
    return " ".join([row_or_blanks(rows, number) for rows in sheets])


def drawing(m):
    """The rows of the drawing of a map without handles, its pieces side by side."""
    refuse_crossed(m)
    sheets = [drawn(piece) for piece in pieces(m)]
    most = max([len(rows) for rows in sheets], default=0)
    return [row_across(sheets, number) for number in range(most)]


def bar_from(row, left):
    """The cells, in order, of the bar that begins at a cell of the row."""
    right = left
    while row[right:right + 1] == BAR:
        right += 1
    return list(range(left, right))


def bars(rows):
    """All bars, each a tuple of the number of its row and the list of its cells."""
    found = []
    for number, row in enumerate(rows):
        for cell, sign in enumerate(row):
            if sign == BAR and (cell == 0 or row[cell - 1] != BAR):
                found.append((number, bar_from(row, cell)))
    return found


def road_numbers(rows):
    """For each column of a trunk road or of the first corner of a side road the road's number."""
    # A trunk road comes to the lower one of its bars at that bar's first cell.
    columns = [cells[0] for row, cells in bars(rows) if row > 0]
    for row in rows:
        columns.extend([cell for cell in range(len(row)) if row[cell] == FIRST_CORNER])
    numbers = {}
    for number, column in enumerate(sorted(columns), start=1):
        numbers[column] = number
    return numbers


def foot_of(rows, row, cell):
    """The row to which one comes from that cell down along a road's upright part."""
    foot = row
    while rows[foot][cell] == UPRIGHT:
        foot += 1
    return foot


def end_below(rows, numbers, row, cell):
    """The end that leaves the bar above that cell of the row."""
    foot = rows[foot_of(rows, row, cell)]
    if foot[cell] == LAST_CORNER:
        # Nothing but level cells stands between both corners of a road.
        return -numbers[foot[:cell].rfind(FIRST_CORNER)]
    return numbers[cell]


def is_left_there(rows, row, cell):
    """Whether a road leaves the bar above that cell of the row; none does so below the sheet."""
    return row < len(rows) and rows[row][cell] in (UPRIGHT, FIRST_CORNER, LAST_CORNER)


def turn_at(rows, numbers, row, cells):
    """The turn round a bar: below it from the left, and then the end above it."""
    ends = [end_below(rows, numbers, row + 1, cell) for cell in cells if is_left_there(rows, row + 1, cell)]
    if row > 0:
        ends.append(-numbers[cells[0]])
    return ends


def seen(rows):
    """The map that is seen in a drawing, its roads numbered by columns from the left."""
    numbers = road_numbers(rows)
    return in_good_order([turn_at(rows, numbers, row, cells) for row, cells in bars(rows)])
