"""Drawings as pictures made of signs: points 29 to 31 of the document.

A cell of a picture is a tuple (row, place): rows are counted from the uppermost one on, places in a
row from the left.
"""

from fewbends.errors import NoPicture
from fewbends.headings import QUARTERS_ROUND, point_beyond
from fewbends.laid import check_laid
from fewbends.words import FIGURES

MOST_REACH = 60
LEVEL_SIGNS = "0123456789+-"
UPRIGHT_SIGNS = "0123456789+|"


def picture(drawing):
    points = list(drawing[0])
    for line in drawing[1]:
        points.extend(line)
    left = min([point[0] for point in points])
    low = min([point[1] for point in points])
    wide = max([point[0] for point in points]) - left
    high = max([point[1] for point in points]) - low
    if wide > MOST_REACH or high > MOST_REACH:
        raise NoPicture("the drawing is too wide or too high")
    signs = {}
    for line in drawing[1]:
        put_line(signs, [cell_of(point, left, low + high) for point in line])
    for number, spot in enumerate(drawing[0]):
        signs[cell_of(spot, left, low + high)] = str(number)
    return [show_row(signs, row, 2 * wide + 1) for row in range(2 * high + 1)]


def cell_of(point, left, top):
    return (2 * (top - point[1]), 2 * (point[0] - left))


def put_line(signs, cells):
    for cell, onward in zip(cells, cells[1:]):
        sign = "-" if cell[0] == onward[0] else "|"
        for row in range(min(cell[0], onward[0]), max(cell[0], onward[0]) + 1):
            for place in range(min(cell[1], onward[1]), max(cell[1], onward[1]) + 1):
                signs[(row, place)] = sign
    for cell in cells[1:-1]:
        signs[cell] = "+"


def show_row(signs, row, wide):
    return "".join([signs.get((row, place), " ") for place in range(wide)]).rstrip(" ")


def read_picture(rows):
    signs = signs_of(rows)
    check_figures(signs)
    for cell in signs:
        if not is_tied_rightly(signs, cell):
            raise NoPicture("a sign isn't tied as it should be")
    places = places_of(signs)
    numbers = {}
    for number, cell in enumerate(places):
        numbers[cell] = number
    ties = []
    heads = []
    for number, cell in enumerate(places):
        for head in (0, 1):
            if is_tied(signs, cell, head):
                ties.append((number, numbers[next_place(signs, cell, head)]))
                heads.append(head)
    laid = (len(places), ties, heads)
    check_laid(laid)
    return laid


# All signs but blanks by their cells, row by row, from left to right.
def signs_of(rows):
    signs = {}
    for row, text in enumerate(rows):
        for place, sign in enumerate(text):
            if sign not in LEVEL_SIGNS and sign not in UPRIGHT_SIGNS and sign != " ":
                raise NoPicture("there is another sign")
            if sign != " ":
                signs[(row, place)] = sign
    return signs


def check_figures(signs):
    figures = sorted([sign for sign in signs.values() if sign in FIGURES])
    if not figures or figures != [str(number) for number in range(len(figures))]:
        raise NoPicture("the figures don't number the places")


def next_cell(cell, head):
    # Rows are counted downward, so north of a cell is the row ahead of it.
    moved = point_beyond((cell[1], -cell[0]), head, 1)
    return (-moved[1], moved[0])


def is_tied(signs, cell, head):
    kinds = LEVEL_SIGNS if head % 2 == 0 else UPRIGHT_SIGNS
    return signs[cell] in kinds and signs.get(next_cell(cell, head), " ") in kinds


def is_tied_rightly(signs, cell):
    heads = [head for head in range(QUARTERS_ROUND) if is_tied(signs, cell, head)]
    if signs[cell] == "-":
        return heads == [0, 2]
    if signs[cell] == "|":
        return heads == [1, 3]
    if signs[cell] == "+":
        return len(heads) == 2 and (heads[0] - heads[1]) % 2 == 1
    return True


# The cells of the figures, by their numbers, and behind them those of the signs +.
def places_of(signs):
    figures = [cell for cell, sign in signs.items() if sign in FIGURES]
    turning = [cell for cell, sign in signs.items() if sign == "+"]
    return sorted(figures, key=lambda cell: signs[cell]) + turning


def next_place(signs, cell, head):
    onward = next_cell(cell, head)
    while signs[onward] in "-|":
        onward = next_cell(onward, head)
    return onward
