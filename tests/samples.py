"""Maps and shapes worked out by hand, and what the tests share.

Each function makes its map anew, so a test may change what it got.
"""

import itertools
import random

from fewbends.maps import lands


def single_tie():
    return (2, [(0, 1)], [[0], [1]])


def self_tie():
    return (1, [(0, 0)], [[0, 1]])


def ring():
    return (3, [(0, 1), (1, 2), (2, 0)], [[0, 5], [2, 1], [4, 3]])


def tree():
    return (4, [(0, 1), (0, 2), (0, 3)], [[0, 2, 4], [1], [3], [5]])


def two_ties():
    return (2, [(0, 1), (0, 1)], [[0, 2], [1, 3]])


def three_ties():
    return (2, [(0, 1), (0, 1), (0, 1)], [[0, 2, 4], [5, 3, 1]])


def star():
    return (5, [(0, 1), (2, 0), (0, 3), (4, 0)], [[0, 3, 4, 7], [1], [2], [5], [6]])


def side_loops():
    return (1, [(0, 0), (0, 0)], [[0, 1, 2, 3]])


def nested_loops():
    return (1, [(0, 0), (0, 0)], [[0, 2, 3, 1]])


def crossing_loops():
    return (1, [(0, 0), (0, 0)], [[0, 2, 1, 3]])


def twisted_ties():
    return (2, [(0, 1), (0, 1), (0, 1)], [[0, 2, 4], [1, 3, 5]])


def flag():
    # A ring of three with a loop at place 0 outside of it and a stalk at place 2 inside.
    return (
        4,
        [(0, 1), (1, 2), (2, 0), (0, 0), (2, 3)],
        [[0, 5, 6, 7], [2, 1], [4, 8, 3], [9]],
    )


def long_ring(many, doubled):
    """A ring of many places; the first so many of its ties are there twice."""
    ties = [(place, (place + 1) % many) for place in range(many)]
    ties += ties[:doubled]
    return with_some_orders(many, ties)


def with_some_orders(many, ties):
    orders = [[] for _ in range(many)]
    for number, (a, b) in enumerate(ties):
        orders[a].append(2 * number)
        orders[b].append(2 * number + 1)
    return (many, ties, orders)


FLAT = [
    single_tie, self_tie, ring, tree, two_ties, three_ties,
    star, side_loops, nested_loops, flag,
]
NOT_FLAT = [crossing_loops, twisted_ties]

# (a map, its outer land, a shape), each worked out by hand.
SHAPES = [
    (single_tie, 0, ([4, 4], [0, 0])),
    (single_tie, 0, ([4, 4], [3, 1])),
    (self_tie, 0, ([3, 1], [0, 3])),
    (self_tie, 1, ([1, 3], [3, 0])),
    (self_tie, 1, ([2, 2], [4, 0])),
    (self_tie, 1, ([3, 1], [6, 1])),
    (ring, 1, ([1, 3, 1, 3, 1, 3], [1, 0, 0, 0, 0, 0])),
    (ring, 1, ([1, 3, 2, 3, 1, 2], [0, 0, 0, 0, 2, 0])),
    (ring, 0, ([3, 1, 3, 1, 3, 1], [0, 0, 0, 1, 0, 0])),
    (tree, 0, ([4, 1, 4, 1, 4, 2], [0, 0, 0, 0, 0, 0])),
    (two_ties, 0, ([2, 2, 2, 2], [0, 4, 0, 0])),
    (two_ties, 1, ([1, 3, 3, 1], [2, 0, 0, 0])),
    (three_ties, 0, ([2, 1, 1, 2, 1, 1], [0, 2, 2, 0, 0, 0])),
    (three_ties, 1, ([1, 2, 1, 1, 2, 1], [2, 0, 0, 0, 0, 2])),
    (three_ties, 2, ([1, 1, 2, 1, 1, 2], [0, 0, 0, 2, 2, 0])),
    (star, 0, ([4, 1, 1, 4, 4, 1, 1, 4], [0, 0, 0, 0, 2, 5, 0, 0])),
    (side_loops, 0, ([1, 1, 1, 1], [0, 5, 3, 0])),
    (side_loops, 1, ([1, 1, 1, 1], [3, 0, 3, 0])),
    (side_loops, 2, ([1, 1, 1, 1], [3, 0, 0, 5])),
    (nested_loops, 0, ([1, 1, 1, 1], [0, 3, 3, 0])),
    (nested_loops, 1, ([1, 1, 1, 1], [5, 0, 3, 0])),
    (nested_loops, 2, ([1, 1, 1, 1], [0, 3, 0, 5])),
    (flag, 0, ([1, 1, 1, 3, 1, 2, 1, 1, 4, 1], [0, 6, 0, 0, 0, 0, 3, 0, 0, 0])),
    (flag, 1, ([1, 1, 1, 3, 1, 2, 1, 1, 4, 1], [2, 0, 0, 0, 0, 0, 3, 0, 0, 0])),
    (flag, 2, ([1, 1, 1, 3, 1, 2, 1, 1, 4, 1], [2, 0, 0, 0, 0, 0, 0, 5, 0, 0])),
]


def rotations(web):
    """The same map with its orders begun elsewhere, in all ways."""
    many, ties, orders = web
    begun = [[order[k:] + order[:k] for k in range(len(order))] for order in orders]
    for chosen in itertools.product(*begun):
        yield (many, list(ties), [list(order) for order in chosen])


def small_maps():
    """All maps of at most three places and two ties, in all orders."""
    for many in range(1, 4):
        pairs = list(itertools.product(range(many), repeat=2))
        for count in range(1, 3):
            for ties in itertools.product(pairs, repeat=count):
                if is_joined(many, ties):
                    yield from all_orders(many, list(ties))


def all_orders(many, ties):
    ends = with_some_orders(many, ties)[2]
    for orders in itertools.product(*[itertools.permutations(at) for at in ends]):
        yield (many, list(ties), [list(order) for order in orders])


def is_joined(many, ties):
    groups = [{place} for place in range(many)]
    for a, b in ties:
        joined = set().union(*[group for group in groups if a in group or b in group])
        groups = [group for group in groups if not group & {a, b}] + [joined]
    return len(groups) == 1


def lists_within(thing):
    """All lists of a thing, itself among them, at every depth."""
    found = []
    if isinstance(thing, (list, tuple)):
        if isinstance(thing, list):
            found.append(thing)
        for part in thing:
            found.extend(lists_within(part))
    return found


def wreck(thing):
    """Changes a thing all the way down."""
    for part in lists_within(thing):
        part.clear()
        part.append("wrecked")


def held(case, ask, make_arguments):
    """What point 2 asks of an answer that has lists."""
    arguments = make_arguments()
    handed = {id(part) for part in lists_within(arguments)}
    told = ask(*make_arguments())
    answer = ask(*arguments)
    case.assertEqual(arguments, make_arguments())
    case.assertEqual(answer, told)
    own = [id(part) for part in lists_within(answer)]
    case.assertTrue(own)
    case.assertEqual(len(own), len(set(own)))
    case.assertFalse(handed & set(own))
    wreck(answer)
    case.assertEqual(arguments, make_arguments())
    again = ask(*arguments)
    case.assertEqual(again, told)
    wreck(arguments)
    case.assertEqual(again, told)


def drawn_map(seed, many, count):
    """A flat map of many places and count ties, drawn by the seed."""
    draw = random.Random(seed)
    for attempt in range(1000):
        web = self_tie() if many == 1 else single_tie()
        while web is not None and len(web[1]) < count:
            missing = many - web[0]
            if missing and (len(web[1]) + missing == count or draw.random() < 0.5):
                web = with_stalk(draw, web)
            else:
                web = with_chord(draw, web)
        if web is not None and web[0] == many:
            return web
    raise ValueError("no such map was drawn")


def with_stalk(draw, web):
    """The map with a new place, tied to some place that has room."""
    many, ties, orders = web
    room = [place for place in range(many) if len(orders[place]) < 4]
    if not room:
        return None
    place = draw.choice(room)
    orders[place].insert(draw.randrange(len(orders[place])), 2 * len(ties))
    return (many + 1, ties + [(place, many)], orders + [[2 * len(ties) + 1]])


def with_chord(draw, web):
    """The map with a new tie through one of its lands, from one of its corners to another or the same."""
    many, ties, orders = web
    chords = []
    for land in lands(web):
        # The new end stands just ahead of the end by which the corner is come to, so within this land.
        corners = [(ties[end // 2][1 - end % 2], end ^ 1) for end in land]
        for chord in itertools.product(corners, repeat=2):
            places = [place for place, beside in chord]
            if all(len(orders[place]) + places.count(place) <= 4 for place in places):
                chords.append(chord)
    if not chords:
        return None
    chord = draw.choice(chords)
    for number, (place, beside) in enumerate(chord):
        orders[place].insert(orders[place].index(beside), 2 * len(ties) + number)
    return (many, ties + [(chord[0][0], chord[1][0])], orders)


def free_wishes(web):
    count = len(web[1])
    return ([1] * count, [None] * count, [None] * (2 * count))


def drawn_wishes(seed, web, most_weight, most_bar, set_share):
    """Wishes for the map; bars where most_bar is a number, and so many of ten ends with a set corner."""
    draw = random.Random(seed)
    count = len(web[1])
    weights = [draw.randint(0, most_weight) for _ in range(count)]
    bars = [None] * count
    if most_bar is not None:
        bars = [draw.choice([None, draw.randint(0, most_bar)]) for _ in range(count)]
    sets = [draw.randint(1, 4) if draw.randrange(10) < set_share else None for _ in range(2 * count)]
    return (weights, bars, sets)
