"""The shortest lines of a parting, and the going that shows it: point 23 of the document."""

from fewbends.lines import lines_of, steps_of
from fewbends.nets import cheapest


def length(parting, way, numbers):
    return sum([numbers[other] - numbers[line] for line, other, piece in map_steps(parting, way)])


# The steps of pieces that are no cut and no frame.
def map_steps(parting, way):
    return [step for step in steps_of(parting, way) if step[2] >= 0]


def net_for(parting, way):
    needs = [0 for line in lines_of(parting, way)]
    for line, other, piece in map_steps(parting, way):
        needs[line] += 1
        needs[other] -= 1
    return (needs, [(line, other, 0, None, -1) for line, other, piece in steps_of(parting, way)])


def shortest(parting, way):
    told = cheapest(net_for(parting, way))
    # Prices that bound something in that net are numbers that rise, and what they bound is 0 less
    # their length. Steps lead round nowhere and lengths don't fall below 0, so it is told as best.
    prices = told[2]
    least = min(prices)
    return ([price - least for price in prices], told[1])
