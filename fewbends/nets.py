"""Nets, goings, and what shows that none costs less: points 9 to 12 of the document.

A net is a tuple (needs, ways); a way is a tuple (a, b, low, high, cost), without a bound where
its high is None.
"""

from fewbends.errors import NoNet
from fewbends.flows import filled, rate, rests, settled_prices


def check_net(net):
    many = len(net[0])
    if many == 0:
        raise NoNet("there is no knot")
    if sum(net[0]) != 0:
        raise NoNet("the needs don't come to nought")
    for way in net[1]:
        if not (0 <= way[0] < many and 0 <= way[1] < many):
            raise NoNet("a way names what is no knot")
        if way[3] is not None and way[3] < way[2]:
            raise NoNet("a high is below the low")


def is_going(net, going):
    check_net(net)
    if len(going) != len(net[1]):
        return False
    if not all([is_within(way, number) for way, number in zip(net[1], going)]):
        return False
    return not any(rests(net, going))


def is_within(way, number):
    return way[2] <= number and (way[3] is None or number <= way[3])


def cost_of(net, going):
    check_net(net)
    return sum([way[4] * number for way, number in zip(net[1], going)])


def bound(net, prices):
    check_net(net)
    total = sum([price * need for price, need in zip(prices, net[0])])
    for way in net[1]:
        least = least_worth(way, prices)
        if least is None:
            return None
        total += least
    return total


def least_worth(way, prices):
    each = rate(way, prices)
    if way[3] is not None:
        return min(way[2] * each, way[3] * each)
    if each < 0:
        return None
    return way[2] * each


def is_lot(net, lot):
    check_net(net)
    if not are_unlike(lot, len(net[0])):
        return False
    inside = [False for knot in net[0]]
    for knot in lot:
        inside[knot] = True
    most = most_out(net, inside)
    return most is not None and sum([net[0][knot] for knot in lot]) > most


def are_unlike(numbers, many):
    if not numbers or min(numbers) < 0 or max(numbers) >= many:
        return False
    return len(set(numbers)) == len(numbers)


# What can go out of these knots, less what comes into them, at the most; None without a bound.
def most_out(net, inside):
    most = 0
    for way in net[1]:
        if inside[way[0]] and not inside[way[1]]:
            if way[3] is None:
                return None
            most += way[3]
        if inside[way[1]] and not inside[way[0]]:
            most -= way[2]
    return most


def is_round(net, ring):
    check_net(net)
    if not are_unlike(ring, len(net[1])):
        return False
    ways = [net[1][number] for number in ring]
    for place, way in enumerate(ways):
        # At the place 0 the one ahead is the last one, as is asked.
        if way[3] is not None or way[0] != ways[place - 1][1]:
            return False
    return sum([way[4] for way in ways]) < 0


def cheapest(net):
    check_net(net)
    settled = settled_prices(net)
    ring = settled[1]
    if ring:
        # Whether there is a going doesn't hang on costs, and with a round none costs least.
        found = filled(without_costs(net), [0 for knot in net[0]])
    else:
        found = filled(net, settled[0])
    if found[2]:
        return ("none", found[2])
    if ring:
        return ("endless", found[0], ring)
    return ("best", found[0], found[1])


def without_costs(net):
    return (net[0], [(a, b, low, high, 0) for a, b, low, high, cost in net[1]])
