"""Drawings by level and upright lines: points 24 to 26 of the document.

A drawing is a tuple (spots, lines): a point for each place, and for each tie the list of its
line's points.
"""

from fewbends.headings import QUARTERS_ROUND, line_headings, opposite, quarters_right
from fewbends.laid import laid_out
from fewbends.lengths import shortest
from fewbends.lines import least_numbers, line_numbers
from fewbends.maps import behind, lands, other_end
from fewbends.meetings import lines_meet
from fewbends.partings import parted
from fewbends.shapes import land_sum, wanted_sum


def is_drawing(web, outer, drawing):
    spots = drawing[0]
    lines = drawing[1]
    # Each of these relies on those ahead of it, so their order matters.
    if len(spots) != web[0] or len(lines) != len(web[1]) or len(set(spots)) != len(spots):
        return False
    for tie, line in zip(web[1], lines):
        if len(line) < 2 or line[0] != spots[tie[0]] or line[-1] != spots[tie[1]] or not turns_at_points(line):
            return False
    if lines_meet(lines) or not orders_hold(web, lines):
        return False
    shape = shape_of(web, drawing)
    return land_sum(lands(web)[outer], shape[0], shape[1]) == wanted_sum(outer, outer)


def turns_at_points(line):
    headings = line_headings(line)
    if None in headings:
        return False
    return all([(head - onward) % 2 == 1 for head, onward in zip(headings, headings[1:])])


# Ends that leave a place by one heading would have met, so here the headings are unlike.
def orders_hold(web, lines):
    headings = leaving_headings(lines)
    for order in web[2]:
        quarters = [(headings[end] - headings[order[place - 1]]) % QUARTERS_ROUND for place, end in enumerate(order)]
        # Told round to the left, they come round once.
        if sum(quarters) > QUARTERS_ROUND:
            return False
    return True


# For each end the heading by which it leaves its place.
def leaving_headings(lines):
    told = []
    for line in lines:
        headings = line_headings(line)
        told.append(headings[0])
        told.append(opposite(headings[-1]))
    return told


def shape_of(web, drawing):
    headings = leaving_headings(drawing[1])
    corners = []
    for end in range(len(headings)):
        corners.append(quarters_right(headings[other_end(end)], headings[behind(web, end)]))
    lefts = []
    for line in drawing[1]:
        lefts.append(turns_by(line, 1))
        # Gone along the other end, a turn to the right is one to the left.
        lefts.append(turns_by(line, -1))
    return (corners, lefts)


# How often a line turns by so many quarters to the left.
def turns_by(line, quarters):
    headings = line_headings(line)
    turning = [(onward - head - quarters) % QUARTERS_ROUND for head, onward in zip(headings, headings[1:])]
    return turning.count(0)


# The told parting of what the map with that shape is laid out as.
def parting_of(web, outer, shape):
    return parted(laid_out(web, outer, shape)[0])


def drawn(web, outer, shape, across, upward):
    told = laid_out(web, outer, shape)
    parting = parted(told[0])
    points = []
    # The parting has the laid-out map's places as its first ones, with their numbers.
    for upright, level in zip(line_numbers(parting, 0), line_numbers(parting, 1)):
        points.append((across[upright], upward[level]))
    lines = [[points[tie[0]]] for tie in web[1]]
    for piece, owner in zip(told[0][1], told[1]):
        lines[owner].append(points[piece[1]])
    return (points[:web[0]], lines)


def narrowest(web, outer, shape):
    parting = parting_of(web, outer, shape)
    return drawn(web, outer, shape, least_numbers(parting, 0), least_numbers(parting, 1))


def shortest_drawn(web, outer, shape):
    parting = parting_of(web, outer, shape)
    return drawn(web, outer, shape, shortest(parting, 0)[0], shortest(parting, 1)[0])
