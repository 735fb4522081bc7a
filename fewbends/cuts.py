"""The search behind point 20 of the document: a laid-out map cut into oblongs, within a frame.

A cut goes straight on from a corner of 3 or 4 and ends at the first tie that can face it. So the
corner is parted into one of 2 and one of 1 or 2, and the land into two that close like any other.
"""

from fewbends.headings import QUARTERS_ROUND, end_heading, opposite
from fewbends.laid import corners_of, map_of, outer_of
from fewbends.maps import lands, other_end

CUT = -1
FRAME = -2


class Sheet:
    # For each place the ends that leave it, by their headings, so that places and ties can be
    # added without looking through all the others.
    def __init__(self, laid):
        self.leaving = [{} for place in range(laid[0])]
        self.ties = []
        self.heads = []
        self.pieces = []


def add_place(sheet):
    sheet.leaving.append({})
    return len(sheet.leaving) - 1


def add_tie(sheet, tie, head, piece):
    first = 2 * len(sheet.ties)
    sheet.ties.append(tie)
    sheet.heads.append(head)
    sheet.pieces.append(piece)
    sheet.leaving[tie[0]][head] = first
    sheet.leaving[tie[1]][opposite(head)] = other_end(first)
    return first


def end_goes_to(sheet, end):
    return sheet.ties[end // 2][1 - end % 2]


# (corner, end): the corner of an end, and the end behind it.
def corner_and_behind(sheet, end):
    leaving = sheet.leaving[end_goes_to(sheet, end)]
    corner = 1
    # The other end itself is met after four quarters at the latest.
    while onward_heading(sheet, end, corner) not in leaving:
        corner += 1
    return (corner, leaving[onward_heading(sheet, end, corner)])


def onward_heading(sheet, end, corner):
    return (end_heading(sheet.heads, other_end(end)) - corner) % QUARTERS_ROUND


# Parts a tie by a new place, and tells that place.
def part_tie(sheet, number):
    place = add_place(sheet)
    tie = sheet.ties[number]
    head = sheet.heads[number]
    sheet.ties[number] = (tie[0], place)
    sheet.leaving[place][opposite(head)] = 2 * number + 1
    add_tie(sheet, (place, tie[1]), head, sheet.pieces[number])
    return place


# A cut from where the end leads to, straight on to the tie of the end that faces it.
def add_cut(sheet, end, facing):
    head = end_heading(sheet.heads, end)
    place = part_tie(sheet, facing // 2)
    add_tie(sheet, (end_goes_to(sheet, end), place), head, CUT)


# The first end, gone on from a corner of 3 or 4, that heads a quarter to the left of where one
# came from. A land that isn't the outer one turns by four quarters to the left, and by one at
# most at a time, so it has such an end.
def facing_end(sheet, end):
    turned = 0
    facing = end
    while turned != 1:
        met = corner_and_behind(sheet, facing)
        turned += 2 - met[0]
        facing = met[1]
    return facing


# An end of the outer land from which one sees out: gone on from it, one never again heads as
# far to the left, so no tie of the map can face it.
def way_out(laid):
    corners = corners_of(laid)
    turned = 0
    found = 0
    most = 0
    for end in lands(map_of(laid))[outer_of(laid)]:
        # The last of those that are furthest to the left is wanted.
        if turned >= most:
            most = turned
            found = end
        turned += 2 - corners[end]
    return found


# The frame is gone round to the left along its first ends; told is the one that faces the heading.
def add_frame(sheet, head):
    corners = [add_place(sheet) for side in range(QUARTERS_ROUND)]
    ends = []
    for side in range(QUARTERS_ROUND):
        onward = (side + 1) % QUARTERS_ROUND
        ends.append(add_tie(sheet, (corners[side], corners[onward]), onward, FRAME))
    return ends[head]


def is_outside(sheet, end):
    return sheet.pieces[end // 2] == FRAME and end % 2 == 1


def cut_up(laid):
    sheet = Sheet(laid)
    for number, tie in enumerate(laid[1]):
        add_tie(sheet, tie, laid[2][number], number)
    out = way_out(laid)
    # With this cut the frame hangs together with the map, and between them lies a land like others.
    add_cut(sheet, out, add_frame(sheet, end_heading(sheet.heads, out)))
    end = 0
    while end < 2 * len(sheet.ties):
        if not is_outside(sheet, end) and corner_and_behind(sheet, end)[0] > 2:
            add_cut(sheet, end, facing_end(sheet, end))
        end += 1
    return sheet
