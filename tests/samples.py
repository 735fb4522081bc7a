"""Maps and shapes worked out by hand, and what the tests share.

Each function makes its map anew, so a test may change what it got.
"""

import itertools
import random

from fewbends.fewest import fewest
from fewbends.laid import laid_out
from fewbends.maps import lands
from fewbends.partings import parted


def single_tie():
    return (2, [(0, 1)], [[0], [1]])


def self_tie():
    return (1, [(0, 0)], [[0, 1]])


def ring():
    return (3, [(0, 1), (1, 2), (2, 0)], [[0, 5], [2, 1], [4, 3]])


def tree():
    return (4, [(0, 1), (0, 2), (0, 3)], [[0, 2, 4], [1], [3], [5]])


def two_ties():
    return (2, [(0, 1), (0, 1)], [[0, 2], [1, 3]])


def three_ties():
    return (2, [(0, 1), (0, 1), (0, 1)], [[0, 2, 4], [5, 3, 1]])


def star():
    return (5, [(0, 1), (2, 0), (0, 3), (4, 0)], [[0, 3, 4, 7], [1], [2], [5], [6]])


def side_loops():
    return (1, [(0, 0), (0, 0)], [[0, 1, 2, 3]])


def nested_loops():
    return (1, [(0, 0), (0, 0)], [[0, 2, 3, 1]])


def crossing_loops():
    return (1, [(0, 0), (0, 0)], [[0, 2, 1, 3]])


def twisted_ties():
    return (2, [(0, 1), (0, 1), (0, 1)], [[0, 2, 4], [1, 3, 5]])


def flag():
    # A ring of three with a loop at place 0 outside of it and a stalk at place 2 inside.
    return (
        4,
        [(0, 1), (1, 2), (2, 0), (0, 0), (2, 3)],
        [[0, 5, 6, 7], [2, 1], [4, 8, 3], [9]],
    )


def long_ring(many, doubled):
    """A ring of many places; the first so many of its ties are there twice."""
    ties = [(place, (place + 1) % many) for place in range(many)]
    ties += ties[:doubled]
    return with_some_orders(many, ties)


def with_some_orders(many, ties):
    orders = [[] for _ in range(many)]
    for number, (a, b) in enumerate(ties):
        orders[a].append(2 * number)
        orders[b].append(2 * number + 1)
    return (many, ties, orders)


FLAT = [
    single_tie, self_tie, ring, tree, two_ties, three_ties,
    star, side_loops, nested_loops, flag,
]
NOT_FLAT = [crossing_loops, twisted_ties]

# (a map, its outer land, a shape), each worked out by hand.
SHAPES = [
    (single_tie, 0, ([4, 4], [0, 0])),
    (single_tie, 0, ([4, 4], [3, 1])),
    (self_tie, 0, ([3, 1], [0, 3])),
    (self_tie, 1, ([1, 3], [3, 0])),
    (self_tie, 1, ([2, 2], [4, 0])),
    (self_tie, 1, ([3, 1], [6, 1])),
    (ring, 1, ([1, 3, 1, 3, 1, 3], [1, 0, 0, 0, 0, 0])),
    (ring, 1, ([1, 3, 2, 3, 1, 2], [0, 0, 0, 0, 2, 0])),
    (ring, 0, ([3, 1, 3, 1, 3, 1], [0, 0, 0, 1, 0, 0])),
    (tree, 0, ([4, 1, 4, 1, 4, 2], [0, 0, 0, 0, 0, 0])),
    (two_ties, 0, ([2, 2, 2, 2], [0, 4, 0, 0])),
    (two_ties, 1, ([1, 3, 3, 1], [2, 0, 0, 0])),
    (three_ties, 0, ([2, 1, 1, 2, 1, 1], [0, 2, 2, 0, 0, 0])),
    (three_ties, 1, ([1, 2, 1, 1, 2, 1], [2, 0, 0, 0, 0, 2])),
    (three_ties, 2, ([1, 1, 2, 1, 1, 2], [0, 0, 0, 2, 2, 0])),
    (star, 0, ([4, 1, 1, 4, 4, 1, 1, 4], [0, 0, 0, 0, 2, 5, 0, 0])),
    (side_loops, 0, ([1, 1, 1, 1], [0, 5, 3, 0])),
    (side_loops, 1, ([1, 1, 1, 1], [3, 0, 3, 0])),
    (side_loops, 2, ([1, 1, 1, 1], [3, 0, 0, 5])),
    (nested_loops, 0, ([1, 1, 1, 1], [0, 3, 3, 0])),
    (nested_loops, 1, ([1, 1, 1, 1], [5, 0, 3, 0])),
    (nested_loops, 2, ([1, 1, 1, 1], [0, 3, 0, 5])),
    (flag, 0, ([1, 1, 1, 3, 1, 2, 1, 1, 4, 1], [0, 6, 0, 0, 0, 0, 3, 0, 0, 0])),
    (flag, 1, ([1, 1, 1, 3, 1, 2, 1, 1, 4, 1], [2, 0, 0, 0, 0, 0, 3, 0, 0, 0])),
    (flag, 2, ([1, 1, 1, 3, 1, 2, 1, 1, 4, 1], [2, 0, 0, 0, 0, 0, 0, 5, 0, 0])),
]


def rotations(web):
    """The same map with its orders begun elsewhere, in all ways."""
    many, ties, orders = web
    begun = [[order[k:] + order[:k] for k in range(len(order))] for order in orders]
    for chosen in itertools.product(*begun):
        yield (many, list(ties), [list(order) for order in chosen])


def small_maps():
    """All maps of at most three places and two ties, in all orders."""
    for many in range(1, 4):
        pairs = list(itertools.product(range(many), repeat=2))
        for count in range(1, 3):
            for ties in itertools.product(pairs, repeat=count):
                if is_joined(many, ties):
                    yield from all_orders(many, list(ties))


def all_orders(many, ties):
    ends = with_some_orders(many, ties)[2]
    for orders in itertools.product(*[itertools.permutations(at) for at in ends]):
        yield (many, list(ties), [list(order) for order in orders])


def is_joined(many, ties):
    groups = [{place} for place in range(many)]
    for a, b in ties:
        joined = set().union(*[group for group in groups if a in group or b in group])
        groups = [group for group in groups if not group & {a, b}] + [joined]
    return len(groups) == 1


def lists_within(thing):
    """All lists of a thing, itself among them, at every depth."""
    found = []
    if isinstance(thing, (list, tuple)):
        if isinstance(thing, list):
            found.append(thing)
        for part in thing:
            found.extend(lists_within(part))
    return found


def wreck(thing):
    """Changes a thing all the way down."""
    for part in lists_within(thing):
        part.clear()
        part.append("wrecked")


def held(case, ask, make_arguments):
    """What point 2 asks of an answer that has lists."""
    arguments = make_arguments()
    handed = {id(part) for part in lists_within(arguments)}
    told = ask(*make_arguments())
    answer = ask(*arguments)
    case.assertEqual(arguments, make_arguments())
    case.assertEqual(answer, told)
    own = [id(part) for part in lists_within(answer)]
    case.assertTrue(own)
    case.assertEqual(len(own), len(set(own)))
    case.assertFalse(handed & set(own))
    wreck(answer)
    case.assertEqual(arguments, make_arguments())
    again = ask(*arguments)
    case.assertEqual(again, told)
    wreck(arguments)
    case.assertEqual(again, told)


def drawn_map(seed, many, count):
    """A flat map of many places and count ties, drawn by the seed."""
    draw = random.Random(seed)
    for attempt in range(1000):
        web = self_tie() if many == 1 else single_tie()
        while web is not None and len(web[1]) < count:
            missing = many - web[0]
            if missing and (len(web[1]) + missing == count or draw.random() < 0.5):
                web = with_stalk(draw, web)
            else:
                web = with_chord(draw, web)
        if web is not None and web[0] == many:
            return web
    raise ValueError("no such map was drawn")


def with_stalk(draw, web):
    """The map with a new place, tied to some place that has room."""
    many, ties, orders = web
    room = [place for place in range(many) if len(orders[place]) < 4]
    if not room:
        return None
    place = draw.choice(room)
    orders[place].insert(draw.randrange(len(orders[place])), 2 * len(ties))
    return (many + 1, ties + [(place, many)], orders + [[2 * len(ties) + 1]])


def with_chord(draw, web):
    """The map with a new tie through one of its lands, from one of its corners to another or the same."""
    many, ties, orders = web
    chords = []
    for land in lands(web):
        # The new end stands just ahead of the end by which the corner is come to, so within this land.
        corners = [(ties[end // 2][1 - end % 2], end ^ 1) for end in land]
        for chord in itertools.product(corners, repeat=2):
            places = [place for place, beside in chord]
            if all(len(orders[place]) + places.count(place) <= 4 for place in places):
                chords.append(chord)
    if not chords:
        return None
    chord = draw.choice(chords)
    for number, (place, beside) in enumerate(chord):
        orders[place].insert(orders[place].index(beside), 2 * len(ties) + number)
    return (many, ties + [(chord[0][0], chord[1][0])], orders)


def free_wishes(web):
    count = len(web[1])
    return ([1] * count, [None] * count, [None] * (2 * count))


def drawn_wishes(seed, web, most_weight, most_bar, set_share):
    """Wishes for the map; bars where most_bar is a number, and so many of ten ends with a set corner."""
    draw = random.Random(seed)
    count = len(web[1])
    weights = [draw.randint(0, most_weight) for _ in range(count)]
    bars = [None] * count
    if most_bar is not None:
        bars = [draw.choice([None, draw.randint(0, most_bar)]) for _ in range(count)]
    sets = [draw.randint(1, 4) if draw.randrange(10) < set_share else None for _ in range(2 * count)]
    return (weights, bars, sets)


def line():
    return (2, [(0, 1)], [0])


def square():
    """Round to the left from the lower left corner: inside lies the land of the first ends."""
    return (4, [(0, 1), (1, 2), (2, 3), (3, 0)], [0, 1, 2, 3])


def cross():
    return (5, [(0, 1), (0, 2), (0, 3), (4, 0)], [0, 1, 2, 1])


def two_squares():
    """Side by side, with the tie 5 between them."""
    return (
        6,
        [(0, 1), (1, 2), (5, 2), (3, 4), (4, 5), (1, 4), (0, 3)],
        [0, 0, 3, 0, 0, 1, 1],
    )


def stalks():
    """An oblong with a stalk inside from the place 1 on to the north, and one outside from 2 to the east."""
    return (
        7,
        [(0, 1), (1, 2), (2, 3), (3, 4), (4, 0), (1, 5), (6, 2)],
        [0, 0, 1, 2, 3, 1, 2],
    )


def grid(wide, high):
    """Places row by row from the lowest on; ties to the east, then ties to the north."""
    ties = []
    heads = []
    for row, column in itertools.product(range(high), range(wide)):
        if column + 1 < wide:
            ties.append((row * wide + column, row * wide + column + 1))
            heads.append(0)
    for row, column in itertools.product(range(high - 1), range(wide)):
        ties.append((row * wide + column, (row + 1) * wide + column))
        heads.append(1)
    return (wide * high, ties, heads)


LAID = [line, square, cross, two_squares, stalks]

SQUARE_TIES = [(0, 1), (1, 2), (2, 3), (3, 0)]

# (many, ties): all headings of them are tried.
FEW_TIES = [
    (1, [(0, 0)]), (2, [(0, 1)]), (2, [(0, 1), (1, 0)]), (2, [(0, 1), (0, 0)]), (3, [(0, 1), (2, 1)]),
    (3, [(0, 1), (1, 2), (2, 0)]), (4, SQUARE_TIES), (4, SQUARE_TIES + [(0, 2)]), (5, SQUARE_TIES + [(4, 0)]),
    (4, [(0, 1), (0, 2), (0, 3)]), (6, [(0, 1), (1, 2), (2, 3), (3, 4), (4, 5), (5, 0)]),
]


def headed(spots, ties):
    """A laid-out map of places at these points."""
    heads = []
    for a, b in ties:
        across, up = spots[b][0] - spots[a][0], spots[b][1] - spots[a][1]
        assert (across == 0) != (up == 0)
        heads.append([across > 0, up > 0, across < 0, up < 0].index(True))
    return (len(spots), list(ties), heads)


def framed_line():
    """A parting of the line: a cut at both ends, the line's second place is 1."""
    spots = [(1, 1), (2, 1), (3, 1), (0, 1), (3, 0), (3, 2), (0, 2), (0, 0)]
    ties = [(0, 1), (1, 2), (3, 0), (4, 2), (2, 5), (5, 6), (6, 3), (3, 7), (7, 4)]
    return (headed(spots, ties), [0, -1, -1] + [-2] * 6)


def framed_square():
    """A parting of the square, with a cut from each of its places, like a windmill."""
    spots = [
        (1, 1), (2, 1), (2, 2), (1, 2), (1, 0), (3, 1), (2, 3), (0, 2), (0, 0), (3, 0), (3, 3), (0, 3),
    ]
    ties = [(0, 1), (1, 2), (2, 3), (3, 0), (0, 4), (1, 5), (2, 6), (3, 7)]
    ties += [(8, 4), (4, 9), (9, 5), (5, 10), (10, 6), (6, 11), (11, 7), (7, 8)]
    return (headed(spots, ties), [0, 1, 2, 3] + [-1] * 4 + [-2] * 8)


def hook():
    """To the east, then back to the west above it: the place 3 lies above the tie 0."""
    return (4, [(0, 1), (1, 2), (3, 2)], [0, 1, 0])


def framed_hook():
    """A parting of the hook; the cut from 3 to the south parts the tie 0 at the place 4."""
    spots = [(1, 1), (3, 1), (3, 2), (2, 2), (2, 1)]
    # The frame, and what ends there: 5 west of 0, 6 east of 1, 7 north of 2, 8 north of 3, 9 south of 1.
    spots += [(0, 1), (4, 1), (3, 3), (2, 3), (3, 0), (0, 0), (4, 0), (4, 3), (0, 3)]
    ties = [(4, 1), (0, 4), (1, 2), (3, 2), (3, 4), (0, 5), (1, 6), (7, 2), (8, 3), (9, 1)]
    ties += [(10, 9), (11, 9), (11, 6), (12, 6), (12, 7), (8, 7), (13, 8), (5, 13), (10, 5)]
    return (headed(spots, ties), [0, 0, 1, 2] + [-1] * 6 + [-2] * 9)


HAND_PARTINGS = [(line, framed_line), (square, framed_square), (hook, framed_hook)]


def drawn_laid(seed, wide, high, many, share):
    """A laid-out map on a sheet wide and high: a tree of many places, and a share of the ties beside."""
    draw = random.Random(seed)
    spots = [(draw.randrange(wide), draw.randrange(high))]
    ties = []
    while len(spots) < many:
        spot = draw.choice(spots)
        beside = [near for near in near_spots(wide, high, spot) if near not in spots]
        if beside:
            ties.append((spot, draw.choice(beside)))
            spots.append(ties[-1][1])
    for spot in list(spots):
        for near in near_spots(wide, high, spot):
            if near in spots and (spot, near) not in ties and (near, spot) not in ties and draw.random() < share:
                ties.append((spot, near))
    draw.shuffle(spots)
    draw.shuffle(ties)
    return headed(spots, [(spots.index(a), spots.index(b)) for a, b in ties])


def near_spots(wide, high, spot):
    x, y = spot
    near = [(x + 1, y), (x, y + 1), (x - 1, y), (x, y - 1)]
    return [(u, v) for u, v in near if 0 <= u < wide and 0 <= v < high]


def with_more_turns(seed, shape, most):
    """The same shape with some turns to the left and as many to the right at each tie."""
    draw = random.Random(seed)
    lefts = list(shape[1])
    for first in range(0, len(lefts), 2):
        more = draw.randint(0, most)
        lefts[first] += more
        lefts[first + 1] += more
    return (list(shape[0]), lefts)


def drawn_shape(seed, many, count):
    """A flat map drawn by the seed, an outer land of it, and a shape with the fewest turns."""
    web = drawn_map(seed, many, count)
    outer = seed % len(lands(web))
    return (web, outer, fewest(web, outer, drawn_wishes(seed, web, 5, None, 0))[1])


def turned(laid, more):
    many, ties, heads = laid
    return (many, list(ties), [(head + more) % 4 for head in heads])


def flipped(laid):
    """Mirrored: west for east."""
    many, ties, heads = laid
    return (many, list(ties), [(2 - head) % 4 for head in heads])


def turned_about(laid, numbers):
    """With the ties of these numbers gone along the other way."""
    many, ties, heads = laid
    ties = [tie[::-1] if number in numbers else tie for number, tie in enumerate(ties)]
    return (many, ties, [(head + 2) % 4 if number in numbers else head for number, head in enumerate(heads)])


def numbered_anew(seed, keep, parting):
    """With the ties, and the places from keep on, numbered anew; cuts and frame turned about as it comes."""
    draw = random.Random(seed)
    (many, ties, heads), pieces = parting
    loose = [number for number, piece in enumerate(pieces) if piece < 0 and draw.random() < 0.5]
    many, ties, heads = turned_about((many, ties, heads), loose)
    places = list(range(keep, many))
    draw.shuffle(places)
    places = list(range(keep)) + places
    order = list(range(len(ties)))
    draw.shuffle(order)
    ties = [(places[a], places[b]) for a, b in ties]
    laid = (many, [ties[number] for number in order], [heads[number] for number in order])
    return (laid, [pieces[number] for number in order])


def otherwise(seed, laid, parting):
    """The parting in all the ways in which it may be handed in, each with what it is a parting of."""
    yield (laid, parting)
    for more in range(4):
        for change in [lambda one: turned(one, more), lambda one: turned(flipped(one), more)]:
            whole, pieces = numbered_anew(seed + more, laid[0], parting)
            yield (change(laid), (change(whole), pieces))


def some_laid():
    """Laid-out maps of many sorts: made by hand, drawn, laid out of shapes with few turns and many."""
    for make in LAID + [hook]:
        for more in range(4):
            yield turned(make(), more)
    yield from [grid(1, 5), grid(6, 1), grid(4, 3)]
    for make, outer, shape in SHAPES:
        yield laid_out(make(), outer, shape)[0]
    for lefts in [[30, 0], [0, 30], [14, 16], [1, 1], [3, 3]]:
        yield laid_out(single_tie(), 0, ([4, 4], lefts))[0]
    for seed in range(24):
        many = 2 + seed % 9
        web, outer, shape = drawn_shape(seed, many, min(many + seed % 7, 2 * many - 1))
        yield laid_out(web, outer, shape)[0]
        yield laid_out(web, outer, with_more_turns(seed, shape, 2))[0]
    for seed in range(24):
        yield drawn_laid(seed, 3 + seed % 5, 3 + seed % 3, 2 + seed % 8, (seed % 3) / 3)


def some_partings():
    """Partings with what they are of: made by hand and told, in all ways in which they are handed in."""
    for make, make_parting in HAND_PARTINGS:
        yield from otherwise(1, make(), make_parting())
    for seed, laid in enumerate(some_laid()):
        yield from otherwise(seed, laid, parted(laid))


# (a map, its outer land, a drawing, the shape read off it), each worked out by hand.
DRAWINGS = [
    (single_tie, 0, ([(0, 0), (3, 0)], [[(0, 0), (3, 0)]]), ([4, 4], [0, 0])),
    (single_tie, 0, ([(5, 2), (5, -7)], [[(5, 2), (5, -7)]]), ([4, 4], [0, 0])),
    # East, north, east, south, west: to the left, to the right three times.
    (
        single_tie, 0,
        ([(0, 0), (2, 1)], [[(0, 0), (1, 0), (1, 3), (4, 3), (4, 1), (2, 1)]]),
        ([4, 4], [1, 3]),
    ),
    (self_tie, 1, ([(0, 0)], [[(0, 0), (1, 0), (1, 1), (0, 1), (0, 0)]]), ([1, 3], [3, 0])),
    (self_tie, 0, ([(0, 0)], [[(0, 0), (1, 0), (1, -1), (0, -1), (0, 0)]]), ([3, 1], [0, 3])),
    # The spot lies in the midst of a side.
    (self_tie, 1, ([(1, 0)], [[(1, 0), (2, 0), (2, 1), (0, 1), (0, 0), (1, 0)]]), ([2, 2], [4, 0])),
    (
        ring, 1,
        ([(0, 0), (1, 1), (0, 1)], [[(0, 0), (1, 0), (1, 1)], [(1, 1), (0, 1)], [(0, 1), (0, 0)]]),
        ([1, 3, 1, 3, 1, 3], [1, 0, 0, 0, 0, 0]),
    ),
    (
        ring, 0,
        ([(0, 0), (0, 1), (1, 1)], [[(0, 0), (0, 1)], [(0, 1), (1, 1)], [(1, 1), (1, 0), (0, 0)]]),
        ([3, 1, 3, 1, 3, 1], [0, 0, 0, 0, 0, 1]),
    ),
    (
        three_ties, 1,
        (
            [(0, 0), (2, 0)],
            [[(0, 0), (0, -1), (2, -1), (2, 0)], [(0, 0), (2, 0)], [(0, 0), (0, 1), (2, 1), (2, 0)]],
        ),
        ([1, 2, 1, 1, 2, 1], [2, 0, 0, 0, 0, 2]),
    ),
    (
        star, 0,
        (
            [(0, 0), (2, 0), (0, 3), (-4, 0), (0, -5)],
            [[(0, 0), (2, 0)], [(0, 3), (0, 0)], [(0, 0), (-4, 0)], [(0, -5), (0, 0)]],
        ),
        ([4, 1, 1, 4, 4, 1, 1, 4], [0] * 8),
    ),
    # The one loop east and north, the other west and south of the place.
    (
        side_loops, 1,
        (
            [(0, 0)],
            [
                [(0, 0), (2, 0), (2, 2), (0, 2), (0, 0)],
                [(0, 0), (-3, 0), (-3, -3), (0, -3), (0, 0)],
            ],
        ),
        ([1, 1, 1, 1], [3, 0, 3, 0]),
    ),
]


def every_point(change, drawing):
    spots, lines = drawing
    return ([change(*spot) for spot in spots], [[change(*point) for point in line] for line in lines])


def drawn_at_will(seed, wide, high, count, share, most):
    """A map, its outer land and a right drawing of it, made of ties on a sheet without the program's help.

    Spots with two ties may be places or parts of a line; at most so many are places.
    """
    draw = random.Random(seed)
    many, ties, heads = drawn_laid(seed, wide, high, count, share)
    spots = spots_of((many, ties, heads))
    near = [{} for _ in range(many)]
    for (a, b), head in zip(ties, heads):
        near[a][head] = b
        near[b][(head + 2) % 4] = a
    places = [spot for spot in range(many) if len(near[spot]) != 2]
    others = [spot for spot in range(many) if len(near[spot]) == 2]
    draw.shuffle(others)
    places += others[:max(most - len(places), 0 if places else 1)]
    draw.shuffle(places)
    if len(places) > most:
        return None
    lines = []
    ends = [{} for _ in places]
    for place, spot in enumerate(places):
        for head in sorted(near[spot]):
            if head not in ends[place]:
                line, last = followed(near, places, spot, head)
                ends[place][head] = 2 * len(lines)
                ends[places.index(line[-1])][last] = 2 * len(lines) + 1
                lines.append(line)
    orders = [[at[head] for head in sorted(at)] for at in ends]
    for order in orders:
        first = draw.randrange(len(order))
        order[:] = order[first:] + order[:first]
    web = (len(places), [(places.index(line[0]), places.index(line[-1])) for line in lines], orders)
    drawing = ([spots[spot] for spot in places], [without_straight([spots[k] for k in line]) for line in lines])
    return (web, outer_by_area(web, drawing), drawing)


def spots_of(laid):
    """Where the places of a drawn laid-out map lie: each tie is one long there."""
    many, ties, heads = laid
    spots = {0: (0, 0)}
    while len(spots) < many:
        for (a, b), head in zip(ties, heads):
            across, up = [(1, 0), (0, 1), (-1, 0), (0, -1)][head]
            if a in spots:
                spots[b] = (spots[a][0] + across, spots[a][1] + up)
            elif b in spots:
                spots[a] = (spots[b][0] - across, spots[b][1] - up)
    return [spots[place] for place in range(many)]


def followed(near, places, spot, head):
    """The spots from one that is a place to the next one, and the heading by which the last leads back."""
    line = [spot]
    while len(line) == 1 or line[-1] not in places:
        line.append(near[line[-1]][head])
        back = (head + 2) % 4
        if line[-1] not in places:
            head = [other for other in near[line[-1]] if other != back][0]
    return (line, back)


def without_straight(points):
    kept = [points[0]]
    for before, point, after in zip(points, points[1:], points[2:]):
        if (before[0] == point[0]) != (point[0] == after[0]):
            kept.append(point)
    return kept + [points[-1]]


def outer_by_area(web, drawing):
    """The one land that isn't gone round to the left: twice its area is nought or less."""
    found = []
    for number, land in enumerate(lands(web)):
        area = 0
        for end in land:
            line = drawing[1][end // 2][:: 1 - 2 * (end % 2)]
            area += sum(x * v - u * y for (x, y), (u, v) in zip(line, line[1:]))
        if area <= 0:
            found.append(number)
    assert len(found) == 1
    return found[0]


def some_at_will(count):
    """Right drawings that were made without the program, each with its map and outer land."""
    seed = 0
    while count:
        sizes = (2 + seed % 4, 2 + seed % 3, 2 + seed % 11, (seed % 4) / 3, 1 + seed % 10)
        fits = sizes[2] <= sizes[0] * sizes[1]
        made = drawn_at_will(seed, *sizes) if fits else None
        if made is not None and len(made[0][1]) <= 16:
            yield made
            count -= 1
        seed += 1
