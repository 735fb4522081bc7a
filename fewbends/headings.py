"""Headings, 0 (east), 1 (north), 2 (west), 3 (south), and the steps of a drawing's lines by them."""

QUARTERS_ROUND = 4
ACROSS = (1, 0, -1, 0)
UPWARD = (0, 1, 0, -1)


def opposite(head):
    return (head + 2) % QUARTERS_ROUND


# The heading by which an end leaves its place, by the headings of the ties' first ends.
def end_heading(heads, end):
    head = heads[end // 2]
    return head if end % 2 == 0 else opposite(head)


# By how many quarters, 1 to 4, one must turn to the right from a heading to another one.
def quarters_right(head, onward):
    # Turning back to the same heading is four quarters, not none.
    return (head - onward - 1) % QUARTERS_ROUND + 1


# The heading of a step; None where it is neither level nor upright, or by nought.
def step_heading(point, onward):
    across = onward[0] - point[0]
    upward = onward[1] - point[1]
    if upward == 0 and across != 0:
        return 0 if across > 0 else 2
    if across == 0 and upward != 0:
        return 1 if upward > 0 else 3
    return None


def line_headings(line):
    return [step_heading(point, onward) for point, onward in zip(line, line[1:])]


def step_length(point, onward):
    return abs(onward[0] - point[0]) + abs(onward[1] - point[1])


def point_beyond(point, head, by):
    return (point[0] + by * ACROSS[head], point[1] + by * UPWARD[head])
