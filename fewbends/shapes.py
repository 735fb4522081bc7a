"""Shapes of drawings without their lengths: points 7 and 8 of the document.

A shape is a tuple (corners, lefts) of two lists with a number for each end.
"""

from fewbends.headings import QUARTERS_ROUND
from fewbends.maps import behind, goes_to, land_of, lands, other_end


def is_shape(web, outer, shape):
    corners = shape[0]
    lefts = shape[1]
    many_ends = 2 * len(web[1])
    if len(corners) != many_ends or len(lefts) != many_ends:
        return False
    if min(corners) < 1 or max(corners) > QUARTERS_ROUND or min(lefts) < 0:
        return False
    return places_close(web, corners) and lands_close(web, outer, corners, lefts)


def places_close(web, corners):
    sums = [0 for place in range(web[0])]
    for end, corner in enumerate(corners):
        sums[goes_to(web, end)] += corner
    return all([total == QUARTERS_ROUND for total in sums])


def lands_close(web, outer, corners, lefts):
    for number, land in enumerate(lands(web)):
        if land_sum(land, corners, lefts) != wanted_sum(number, outer):
            return False
    return True


def wanted_sum(number, outer):
    return -QUARTERS_ROUND if number == outer else QUARTERS_ROUND


def land_sum(land, corners, lefts):
    return sum([2 - corners[end] + lefts[end] - lefts[other_end(end)] for end in land])


def turns(shape):
    lefts = shape[1]
    return [lefts[first] + lefts[first + 1] for first in range(0, len(lefts), 2)]


def shortened(shape):
    lefts = shape[1]
    fewer = [left - min(left, lefts[other_end(end)]) for end, left in enumerate(lefts)]
    return (list(shape[0]), fewer)


def mirrored(web, outer, shape):
    mirror = (web[0], list(web[1]), [list(reversed(order)) for order in web[2]])
    # All ends of a land change sides together, so one of them finds the new land.
    new_outer = land_of(mirror, other_end(lands(web)[outer][0]))
    return (mirror, new_outer, mirrored_shape(web, shape))


def mirrored_shape(web, shape):
    lefts = shape[1]
    new_corners = list(shape[0])
    for end, corner in enumerate(shape[0]):
        # Going round the other way, the same corner is met by coming back along the end behind.
        new_corners[other_end(behind(web, end))] = corner
    return (new_corners, [lefts[other_end(end)] for end in range(len(lefts))])
