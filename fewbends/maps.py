"""Maps and their lands: points 5 and 6 of the document.

A map is a tuple (many, ties, orders); in the arguments it is called web.
"""

from fewbends.errors import NoLand, NoMap, NotFlat

MOST_PLACES = 200
MOST_TIES = 400
MOST_ENDS_AT_A_PLACE = 4


def check_map(web):
    many = web[0]
    ties = web[1]
    # Each of these relies on those ahead of it, so their order matters.
    if not 1 <= many <= MOST_PLACES:
        raise NoMap("the number of places is out of bounds")
    if not 1 <= len(ties) <= MOST_TIES:
        raise NoMap("the number of ties is out of bounds")
    if not ties_name_places(many, ties):
        raise NoMap("a tie names what is no place")
    if not orders_fit(web):
        raise NoMap("an order doesn't tell the ends at its place")
    if not hangs_together(many, ties):
        raise NoMap("the places don't hang together")


def ties_name_places(many, ties):
    return all([0 <= a < many and 0 <= b < many for a, b in ties])


def orders_fit(web):
    orders = web[2]
    if len(orders) != web[0]:
        return False
    for order, ends in zip(orders, ends_at_places(web[0], web[1])):
        if len(order) > MOST_ENDS_AT_A_PLACE or sorted(order) != ends:
            return False
    return True


def ends_at_places(many, ties):
    # The ends come in rising order, so a sorted order can be held against them.
    ends = [[] for place in range(many)]
    for number, tie in enumerate(ties):
        ends[tie[0]].append(2 * number)
        ends[tie[1]].append(2 * number + 1)
    return ends


def hangs_together(many, ties):
    near = [[] for place in range(many)]
    for a, b in ties:
        near[a].append(b)
        near[b].append(a)
    reached = [place == 0 for place in range(many)]
    waiting = [0]
    while waiting:
        place = waiting.pop()
        for neighbour in near[place]:
            if not reached[neighbour]:
                reached[neighbour] = True
                waiting.append(neighbour)
    return all(reached)


def other_end(end):
    # The ends of a tie t are 2 t and 2 t + 1: they differ in the last bit alone.
    return end ^ 1


def place_of(web, end):
    return web[1][end // 2][end % 2]


def goes_to(web, end):
    return place_of(web, other_end(end))


def behind(web, end):
    order = web[2][goes_to(web, end)]
    # Where the other end stands first the index is -1: the last one, as is asked.
    return order[order.index(other_end(end)) - 1]


def lands(web):
    told = []
    seen = [False for end in range(2 * len(web[1]))]
    # Ends are tried from the least on, so each land begins with its least end
    # and the lands come in the order of their first ends.
    for first in range(2 * len(web[1])):
        if not seen[first]:
            land = land_from(web, first)
            for end in land:
                seen[end] = True
            told.append(land)
    return told


def land_from(web, first):
    land = [first]
    end = behind(web, first)
    while end != first:
        land.append(end)
        end = behind(web, end)
    return land


def land_numbers(web):
    numbers = [0 for end in range(2 * len(web[1]))]
    for number, land in enumerate(lands(web)):
        for end in land:
            numbers[end] = number
    return numbers


def land_of(web, end):
    return land_numbers(web)[end]


def is_flat(web):
    return web[0] + len(lands(web)) == len(web[1]) + 2


def check_flat(web):
    check_map(web)
    if not is_flat(web):
        raise NotFlat("the map isn't flat")


def check_outer(web, outer):
    check_flat(web)
    if not 0 <= outer < len(lands(web)):
        raise NoLand("the map has no land of that number")
