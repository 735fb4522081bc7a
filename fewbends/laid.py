"""Laid-out maps: points 17 and 18 of the document.

A laid-out map is a tuple (many, ties, heads): places and ties as of a map, and for each tie the
heading by which its first end leaves its place: 0 (east), 1 (north), 2 (west), 3 (south).
"""

from fewbends.errors import NoLaid, NoShape
from fewbends.headings import QUARTERS_ROUND, end_heading, opposite, quarters_right
from fewbends.maps import behind, check_outer, ends_at_places, hangs_together, is_flat, lands
from fewbends.maps import other_end, ties_name_places
from fewbends.shapes import is_shape, land_sum, wanted_sum


def check_laid(laid):
    many = laid[0]
    ties = laid[1]
    # Each of these relies on those ahead of it, so their order matters.
    # Places that hang together are at most one more than ties; more needn't be walked.
    if not ties or not 1 <= many <= len(ties) + 1:
        raise NoLaid("there is no place, no tie, or too few of them")
    if not ties_name_places(many, ties):
        raise NoLaid("a tie names what is no place")
    if len(laid[2]) != len(ties) or not all([0 <= head < QUARTERS_ROUND for head in laid[2]]):
        raise NoLaid("the headings don't fit the ties")
    if not ends_part(laid):
        raise NoLaid("two ends leave a place by one heading")
    if not hangs_together(many, ties) or not is_flat(map_of(laid)):
        raise NoLaid("the map doesn't hang together or isn't flat")
    if not lands_turn_round(laid):
        raise NoLaid("the lands don't close")


def ends_part(laid):
    for ends in ends_at_places(laid[0], laid[1]):
        if len(set([end_heading(laid[2], end) for end in ends])) != len(ends):
            return False
    return True


def lands_turn_round(laid):
    sums = sorted(land_sums(laid))
    # The outer land's sum is the least one: it comes first, wherever the land stands.
    return sums == [wanted_sum(number, 0) for number in range(len(sums))]


def land_sums(laid):
    corners = corners_of(laid)
    lefts = [0 for corner in corners]
    return [land_sum(land, corners, lefts) for land in lands(map_of(laid))]


def map_of(laid):
    ends_at = ends_at_places(laid[0], laid[1])
    orders = [sorted(ends, key=lambda end: end_heading(laid[2], end)) for ends in ends_at]
    return (laid[0], list(laid[1]), orders)


def corners_of(laid):
    web = map_of(laid)
    corners = []
    for end in range(2 * len(laid[1])):
        back = end_heading(laid[2], other_end(end))
        corners.append(quarters_right(back, end_heading(laid[2], behind(web, end))))
    return corners


def outer_of(laid):
    sums = land_sums(laid)
    return sums.index(min(sums))


def laid_out(web, outer, shape):
    check_outer(web, outer)
    if not is_shape(web, outer, shape):
        raise NoShape("it is no shape of the map with that outer land")
    many = web[0]
    headings = end_headings(web, shape)
    ties = []
    heads = []
    owners = []
    for number, tie in enumerate(web[1]):
        lefts = shape[1][2 * number]
        pieces = piece_headings(headings[2 * number], lefts, shape[1][2 * number + 1])
        after = many + len(pieces) - 1
        stops = [tie[0]] + list(range(many, after)) + [tie[1]]
        ties.extend(list(zip(stops, stops[1:])))
        heads.extend(pieces)
        owners.extend([number for piece in pieces])
        many = after
    return ((many, ties, heads), owners)


# For each end the heading by which it leaves its place, the first one's being east.
def end_headings(web, shape):
    corners = shape[0]
    lefts = shape[1]
    headings = {0: 0}
    waiting = [0]
    while waiting:
        end = waiting.pop()
        other = other_end(end)
        # What is found twice is found alike, since it is a shape.
        back = opposite(headings[end] + lefts[end] - lefts[other])
        onward = (back - corners[end]) % QUARTERS_ROUND
        for near, heading in [(other, back), (behind(web, end), onward)]:
            if near not in headings:
                headings[near] = heading
                waiting.append(near)
    return headings


def piece_headings(first, lefts, rights):
    heading = first
    headings = [heading]
    for quarter in [1 for left in range(lefts)] + [-1 for right in range(rights)]:
        heading = (heading + quarter) % QUARTERS_ROUND
        headings.append(heading)
    return headings
