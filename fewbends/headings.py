"""Headings: 0 (east), 1 (north), 2 (west), 3 (south)."""

QUARTERS_ROUND = 4


def opposite(head):
    return (head + 2) % QUARTERS_ROUND


# By how many quarters, 1 to 4, one must turn to the right from a heading to another one.
def quarters_right(head, onward):
    # Turning back to the same heading is four quarters, not none.
    return (head - onward - 1) % QUARTERS_ROUND + 1
