"""Partings of laid-out maps into oblongs: points 19 and 20 of the document.

A parting is a tuple (laid, pieces): for each tie of its laid-out map of which tie of the first one
it is a piece, or -1 for a cut, or -2 for a piece of the frame.
"""

from fewbends.cuts import FRAME, cut_up
from fewbends.errors import NoLaid
from fewbends.headings import QUARTERS_ROUND
from fewbends.laid import check_laid, corners_of, map_of, outer_of
from fewbends.maps import lands


def parted(laid):
    sheet = cut_up(laid)
    return ((len(sheet.leaving), sheet.ties, sheet.heads), sheet.pieces)


def is_parting(laid, parting):
    whole = parting[0]
    # Each of these relies on those ahead of it, so their order matters.
    if not is_laid(whole) or len(parting[1]) != len(whole[1]) or whole[0] < laid[0]:
        return False
    if not pieces_lead(laid, parting):
        return False
    return lands_are_oblongs(whole) and frame_is_outside(parting)


def is_laid(laid):
    try:
        check_laid(laid)
    except NoLaid:
        return False
    return True


def pieces_lead(laid, parting):
    pieces = parting[1]
    if min(pieces) < FRAME or max(pieces) >= len(laid[1]):
        return False
    numbers = [[] for tie in laid[1]]
    for number, piece in enumerate(pieces):
        if piece >= 0:
            numbers[piece].append(number)
    between = {}
    for tie in range(len(laid[1])):
        if not tie_leads(laid, tie, parting[0], numbers[tie], between):
            return False
    return True


# Whether the pieces of these numbers lead along the tie; puts the places between among those
# that are between already.
def tie_leads(laid, tie, whole, numbers, between):
    onward = {}
    for number in numbers:
        if whole[2][number] != laid[2][tie]:
            return False
        onward[whole[1][number][0]] = whole[1][number][1]
    place = laid[1][tie][0]
    # No place is passed twice here, so as many steps as pieces go along each of them once.
    for count in range(len(numbers)):
        if place not in onward or place in between:
            return False
        if count > 0:
            if place < laid[0]:
                return False
            between[place] = True
        place = onward[place]
    # Without pieces one is still at the first place: no straight tie leads from a place to itself.
    return place == laid[1][tie][1]


def lands_are_oblongs(whole):
    corners = corners_of(whole)
    outer = outer_of(whole)
    for number, land in enumerate(lands(map_of(whole))):
        corner = 3 if number == outer else 1
        turning = [corners[end] for end in land if corners[end] != 2]
        if turning != [corner for side in range(QUARTERS_ROUND)]:
            return False
    return True


def frame_is_outside(parting):
    outer_land = lands(map_of(parting[0]))[outer_of(parting[0])]
    frame = [number for number, piece in enumerate(parting[1]) if piece == FRAME]
    return sorted([end // 2 for end in outer_land]) == frame
