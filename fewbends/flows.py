"""The search behind points 11 and 12 of the document: a going that costs least, a lot or a round.

A net is a tuple (needs, ways); a way is a tuple (a, b, low, high, cost). A door is a tuple
(number, by): one goes along the way of that number where by is 1, back against it where it is -1.
"""


def rate(way, prices):
    return way[4] - prices[way[0]] + prices[way[1]]


# For each knot what must still go out of it.
def rests(net, going):
    told = list(net[0])
    for way, number in zip(net[1], going):
        told[way[0]] -= number
        told[way[1]] += number
    return told


# (prices, ring): the ring is a round, or empty where there is none. Then no way without a bound
# has a rate below nought by the prices.
def settled_prices(net):
    prices = [0 for knot in net[0]]
    onward = {}
    free = [number for number, way in enumerate(net[1]) if way[3] is None]
    changed = None
    # Where there is no round the prices come to rest in the last of these passes at the latest.
    for count in range(len(prices)):
        changed = lower_prices(net, free, prices, onward)
        if changed is None:
            return (prices, [])
    return (prices, ring_behind(net, onward, changed))


def lower_prices(net, free, prices, onward):
    changed = None
    for number in free:
        way = net[1][number]
        below = rate(way, prices)
        if below < 0:
            prices[way[0]] += below
            onward[way[0]] = number
            changed = way[0]
    return changed


def ring_behind(net, onward, knot):
    first = knot
    # After as many steps as there are knots one is on the ring for sure.
    for count in range(len(net[0])):
        first = net[1][onward[first]][1]
    ring = [onward[first]]
    at = net[1][onward[first]][1]
    while at != first:
        ring.append(onward[at])
        at = net[1][onward[at]][1]
    return ring


class Search:
    # All along each way with a rate above nought is at its low and each with one below nought
    # at its high; so once nothing rests any more, the going costs what the prices bound.
    def __init__(self, net, prices):
        self.ways = net[1]
        self.prices = list(prices)
        self.going = [way[3] if rate(way, prices) < 0 else way[2] for way in net[1]]
        self.resting = rests(net, self.going)
        self.doors = doors_of(net)


def doors_of(net):
    doors = [[] for knot in net[0]]
    for number, way in enumerate(net[1]):
        doors[way[0]].append((number, 1))
        doors[way[1]].append((number, -1))
    return doors


# (going, prices, lot): the lot is empty where there is a going. By the prices handed in no way
# without a bound may have a rate below nought.
def filled(net, prices):
    search = Search(net, prices)
    while any(search.resting):
        reached = reach(search)
        last = list(reached)[-1]
        if search.resting[last] >= 0:
            # Too much is in the knots within reach, and no more of it can leave them.
            return ([], [], sorted(reached))
        raise_prices(search, reached, last)
        push(search, path_to(search, reached, last), last)
    return (search.going, search.prices, [])


# The knots within reach of those with too much in them, the nearest first, up to one with too
# little; for each a tuple (distance, knot, number, by) with the door that led to it, by being 0
# where none did.
def reach(search):
    begun = [(0, knot, 0, 0) for knot, rest in enumerate(search.resting) if rest > 0]
    waiting = sorted(begun, reverse=True)
    nearest = {}
    reached = {}
    while waiting:
        entry = waiting.pop()
        knot = entry[1]
        if knot not in reached:
            reached[knot] = entry
            if search.resting[knot] < 0:
                return reached
            for number, by in search.doors[knot]:
                distance = entry[0] + by * rate(search.ways[number], search.prices)
                far = far_side(search, number, by)
                nearer = far not in nearest or distance < nearest[far]
                if nearer and room(search, number, by) != 0:
                    nearest[far] = distance
                    put_in(waiting, (distance, far, number, by))
    return reached


def far_side(search, number, by):
    return search.ways[number][1 if by > 0 else 0]


# How much more may go through a door; None where there is no bound.
def room(search, number, by):
    way = search.ways[number]
    if by < 0:
        return search.going[number] - way[2]
    if way[3] is None:
        return None
    return way[3] - search.going[number]


def put_in(waiting, entry):
    # The list falls, so the nearest one can be taken off its end.
    first = 0
    beyond = len(waiting)
    while first < beyond:
        middle = (first + beyond) // 2
        if waiting[middle] > entry:
            first = middle + 1
        else:
            beyond = middle
    waiting.insert(first, entry)


def raise_prices(search, reached, last):
    # So the doors that led to the last knot get the rate nought, and no door with room a wrong one.
    for knot, entry in reached.items():
        search.prices[knot] += reached[last][0] - entry[0]


def path_to(search, reached, last):
    path = []
    entry = reached[last]
    while entry[3] != 0:
        path.append((entry[2], entry[3]))
        entry = reached[far_side(search, entry[2], -entry[3])]
    return path


def push(search, path, last):
    begin = far_side(search, path[-1][0], -path[-1][1])
    rooms = [room(search, number, by) for number, by in path]
    bounds = [most for most in rooms if most is not None]
    amount = min([search.resting[begin], -search.resting[last]] + bounds)
    for number, by in path:
        search.going[number] += by * amount
    search.resting[begin] -= amount
    search.resting[last] += amount
