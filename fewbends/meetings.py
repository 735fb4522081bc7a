"""Whether a drawing's lines meet where they mustn't: the search behind point 24 of the document.

A stretch is a step of a line as a tuple (at, low, high, tie, place): a level one lies at the height
at, from low to high across; an upright one stands at at, from low to high upward. It is the step of
that place, from 0 on, in the line of that tie. Each step must be level or upright, by 1 or more.
"""


def lines_meet(lines):
    level = stretches(lines, 0)
    upright = stretches(lines, 1)
    return any_overlap(level) or any_overlap(upright) or any_cross(lines, level, upright)


# The level ones by way 0, the upright ones by way 1, sorted by where they lie.
def stretches(lines, way):
    told = []
    for tie, line in enumerate(lines):
        for place, point in enumerate(line[1:]):
            before = line[place]
            if before[way] != point[way]:
                low = min(before[way], point[way])
                high = max(before[way], point[way])
                told.append((point[1 - way], low, high, tie, place))
    return sorted(told)


# Where none overlap, those that lie at one height follow one another: so only neighbours are looked
# at. They may touch: where one of them turns there, its line's next step crosses the other one, and
# else both end a line there.
def any_overlap(sorted_ones):
    for one, other in zip(sorted_ones, sorted_ones[1:]):
        if one[0] == other[0] and other[1] < one[2]:
            return True
    return False


def any_cross(lines, level, upright):
    for one in upright:
        place = first_from(level, one[1])
        while place < len(level) and level[place][0] <= one[2]:
            other = level[place]
            if other[1] <= one[0] <= other[2] and not may_touch(lines, one, other):
                return True
            place += 1
    return False


# The place of the first stretch that lies at least so high.
def first_from(sorted_ones, least):
    first = 0
    beyond = len(sorted_ones)
    while first < beyond:
        middle = (first + beyond) // 2
        if sorted_ones[middle][0] < least:
            first = middle + 1
        else:
            beyond = middle
    return first


# An upright and a level stretch have just one point in common.
def may_touch(lines, upright, level):
    if upright[3] == level[3] and abs(upright[4] - level[4]) == 1:
        return True
    point = (upright[0], level[0])
    return ends_line_at(lines, upright, point) and ends_line_at(lines, level, point)


def ends_line_at(lines, stretch, point):
    line = lines[stretch[3]]
    if stretch[4] == 0 and line[0] == point:
        return True
    return stretch[4] == len(line) - 2 and line[-1] == point
