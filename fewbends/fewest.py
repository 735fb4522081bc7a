"""Shapes with the fewest turns, under wishes: points 13 to 15 of the document.

Wishes are a tuple (weights, bars, sets).
"""

from fewbends.headings import QUARTERS_ROUND
from fewbends.maps import check_outer, goes_to, land_numbers, lands, other_end
from fewbends.nets import bound, cheapest, is_lot
from fewbends.shapes import is_shape, shortened, turns, wanted_sum


def keeps(wishes, shape):
    for many, bar in zip(turns(shape), wishes[1]):
        if bar is not None and many > bar:
            return False
    for corner, wanted in zip(shape[0], wishes[2]):
        if wanted is not None and corner != wanted:
            return False
    return True


def cost(wishes, shape):
    return sum([many * weight for many, weight in zip(turns(shape), wishes[0])])


def net_of(web, outer, wishes):
    needs = [QUARTERS_ROUND for place in range(web[0])]
    for number, land in enumerate(lands(web)):
        needs.append(wanted_sum(number, outer) - 2 * len(land))
    return (needs, corner_ways(web, wishes[2]) + left_ways(web, wishes))


def corner_ways(web, sets):
    ways = []
    for end, number in enumerate(land_numbers(web)):
        low = 1 if sets[end] is None else sets[end]
        high = QUARTERS_ROUND if sets[end] is None else sets[end]
        ways.append((goes_to(web, end), web[0] + number, low, high, 0))
    return ways


def left_ways(web, wishes):
    weights = wishes[0]
    bars = wishes[1]
    numbers = land_numbers(web)
    ways = []
    for end, number in enumerate(numbers):
        beyond = numbers[other_end(end)]
        ways.append((web[0] + number, web[0] + beyond, 0, bars[end // 2], weights[end // 2]))
    return ways


def fewest(web, outer, wishes):
    check_outer(web, outer)
    told = cheapest(net_of(web, outer, wishes))
    # Turns cost nought or more, so it can't be endless.
    if told[0] == "none":
        return told
    many_ends = 2 * len(web[1])
    # A going may turn a tie to both sides, and only what is left when it is shortened keeps the bars.
    shape = shortened((told[1][:many_ends], told[1][many_ends:]))
    return ("shape", shape, told[2])


def shows_fewest(web, outer, wishes, shape, prices):
    if not is_shape(web, outer, shape) or not keeps(wishes, shape):
        return False
    return bound_of(web, outer, wishes, prices) == cost(wishes, shape)


# None, too, where there aren't as many prices as places and lands.
def bound_of(web, outer, wishes, prices):
    net = net_of(web, outer, wishes)
    if len(prices) != len(net[0]):
        return None
    return bound(net, prices)


def shows_none(web, outer, wishes, lot):
    return is_lot(net_of(web, outer, wishes), lot)
