import itertools
import unittest

from fewbends.errors import NoLand, NoMap, NotFlat
from fewbends.fewest import cost, fewest, keeps, net_of, shows_fewest, shows_none
from fewbends.maps import is_flat, lands
from fewbends.nets import bound, cheapest, cost_of, is_going, is_lot
from fewbends.shapes import is_shape, shortened, turns
from tests import samples
from tests.samples import drawn_map, drawn_wishes, free_wishes

GREAT = 10 ** 40 - 1


def ring_wishes():
    """Weights, bars and set corners for the ring of three, worked out by hand below."""
    return ([5, 0, 2], [None, 0, 3], [None, 3, None, None, 1, None])


def with_part(thing, place, part):
    told = list(thing)
    told[place] = part
    return told


class KeepsAndCost(unittest.TestCase):
    SHAPE = ([1, 3, 2, 3, 1, 2], [0, 0, 0, 0, 2, 0])

    def test_what_keeps_the_wishes(self):
        self.assertIs(keeps(ring_wishes(), self.SHAPE), True)
        self.assertIs(keeps(([0] * 3, [None] * 3, [None] * 6), self.SHAPE), True)
        self.assertIs(keeps(([0] * 3, [0, 0, 2], list(self.SHAPE[0])), self.SHAPE), True)

    def test_bars(self):
        for bar in range(6):
            wishes = ([1] * 3, [None, None, bar], [None] * 6)
            self.assertIs(keeps(wishes, self.SHAPE), bar >= 2)
            self.assertIs(keeps(wishes, ([1] * 6, [9, 9, 9, 9, 1, 2])), bar >= 3)
            self.assertIs(keeps(wishes, ([1] * 6, [9, 9, 9, 9, 0, 3])), bar >= 3)
        self.assertIs(keeps(([1], [0], [None, None]), ([4, 4], [0, 0])), True)
        self.assertIs(keeps(([1], [0], [None, None]), ([4, 4], [0, 1])), False)
        self.assertIs(keeps(([1], [0], [None, None]), ([4, 4], [1, 0])), False)
        self.assertIs(keeps(([1], [40], [None, None]), ([4, 4], [20, 20])), True)
        self.assertIs(keeps(([1], [40], [None, None]), ([4, 4], [20, 21])), False)

    def test_each_bar_is_its_own_ties(self):
        lefts = [1, 1, 2, 2, 3, 3]
        self.assertIs(keeps(([0] * 3, [2, 4, 6], [None] * 6), ([1] * 6, lefts)), True)
        for tie in range(3):
            bars = with_part([2, 4, 6], tie, 2 * tie + 1)
            self.assertIs(keeps(([0] * 3, bars, [None] * 6), ([1] * 6, lefts)), False)

    def test_set_corners(self):
        for end, corner in enumerate(self.SHAPE[0]):
            for wanted in [1, 2, 3, 4]:
                sets = with_part([None] * 6, end, wanted)
                self.assertIs(keeps(([1] * 3, [None] * 3, sets), self.SHAPE), wanted == corner)

    def test_the_numbers_alone_are_looked_at(self):
        self.assertIs(keeps(([1], [None], [4, 1]), ([4, 1], [GREAT, GREAT])), True)
        self.assertIs(keeps(([1], [None], [4, 1]), ([4, 77], [0, 0])), False)

    def test_cost(self):
        self.assertEqual(cost(ring_wishes(), self.SHAPE), 4)
        self.assertEqual(cost(ring_wishes(), ([1] * 6, [3, 4, 100, 100, 0, 1])), 37)
        self.assertEqual(cost(([0, 0, 0], [None] * 3, [None] * 6), ([1] * 6, [3, 4, 5, 6, 7, 8])), 0)
        self.assertEqual(cost(([1000], [0], [1, 1]), ([4, 4], [GREAT, 1])), 1000 * (GREAT + 1))
        self.assertEqual(cost(([1, 10, 100], [None] * 3, [None] * 6), ([1] * 6, [1, 1, 0, 3, 4, 0])), 432)


class NetOf(unittest.TestCase):
    def test_the_ring_by_hand(self):
        wanted = (
            [4, 4, 4, -2, -10],
            [
                (1, 3, 1, 4, 0), (0, 4, 3, 3, 0), (2, 3, 1, 4, 0),
                (1, 4, 1, 4, 0), (0, 3, 1, 1, 0), (2, 4, 1, 4, 0),
                (3, 4, 0, None, 5), (4, 3, 0, None, 5), (3, 4, 0, 0, 0),
                (4, 3, 0, 0, 0), (3, 4, 0, 3, 2), (4, 3, 0, 3, 2),
            ],
        )
        self.assertEqual(net_of(samples.ring(), 1, ring_wishes()), wanted)
        other = ([4, 4, 4, -10, -2], wanted[1])
        self.assertEqual(net_of(samples.ring(), 0, ring_wishes()), other)

    def test_a_tie_alone_by_hand(self):
        # Both ends are in the one land, which is the outer one.
        told = net_of(samples.single_tie(), 0, ([7], [40], [None, 4]))
        wanted = ([4, 4, -8], [(1, 2, 1, 4, 0), (0, 2, 4, 4, 0), (2, 2, 0, 40, 7), (2, 2, 0, 40, 7)])
        self.assertEqual(told, wanted)

    def test_a_tie_of_a_place_with_itself_by_hand(self):
        told = net_of(samples.self_tie(), 0, ([1000], [None], [2, None]))
        wanted = ([4, -6, 2], [(0, 1, 2, 2, 0), (0, 2, 1, 4, 0), (1, 2, 0, None, 1000), (2, 1, 0, None, 1000)])
        self.assertEqual(told, wanted)

    def test_the_kinds(self):
        needs, ways = net_of(samples.ring(), 1, ring_wishes())
        self.assertIs(type(net_of(samples.ring(), 1, ring_wishes())), tuple)
        self.assertEqual([type(needs), type(ways)], [list, list])
        self.assertTrue(all(type(way) is tuple for way in ways))

    def test_a_shape_is_a_going_that_costs_as_much(self):
        for make, outer, shape in samples.SHAPES:
            web = make()
            weights = [3 + 5 * tie for tie in range(len(web[1]))]
            wishes = (weights, turns(shape), list(shape[0]))
            net = net_of(web, outer, wishes)
            self.assertIs(is_going(net, shape[0] + shape[1]), True)
            self.assertEqual(cost_of(net, shape[0] + shape[1]), cost(wishes, shape))
            for other in range(len(lands(web))):
                told = is_going(net_of(web, other, wishes), shape[0] + shape[1])
                self.assertIs(told, other == outer)

    def test_shapes_and_goings_are_the_same_for_a_tie_alone(self):
        for make in [samples.single_tie, samples.self_tie]:
            web = make()
            wishes = free_wishes(web)
            for numbers in itertools.product(range(6), range(6), range(-1, 8), range(-1, 8)):
                for outer in range(len(lands(web))):
                    shape = (list(numbers[:2]), list(numbers[2:]))
                    told = is_going(net_of(web, outer, wishes), list(numbers))
                    self.assertIs(told, is_shape(web, outer, shape))

    def test_a_going_shortened_keeps_the_wishes(self):
        # The going turns the tie twice to each side, though its bar is 2.
        web = samples.single_tie()
        wishes = ([0], [2], [None, None])
        self.assertIs(is_going(net_of(web, 0, wishes), [4, 4, 2, 2]), True)
        self.assertIs(keeps(wishes, ([4, 4], [2, 2])), False)
        self.assertIs(keeps(wishes, shortened(([4, 4], [2, 2]))), True)


def look_at(case, web, outer, wishes):
    """Holds what is told against its point; what the shape costs, or None."""
    told = fewest(web, outer, wishes)
    case.assertIs(type(told), tuple)
    net = net_of(web, outer, wishes)
    if told[0] == "none":
        word, lot = told
        case.assertIs(is_lot(net, lot), True)
        case.assertIs(shows_none(web, outer, wishes, lot), True)
        return None
    word, shape, prices = told
    case.assertEqual(word, "shape")
    case.assertIs(type(shape), tuple)
    case.assertIs(is_shape(web, outer, shape), True)
    case.assertEqual(shortened(shape), shape)
    case.assertIs(keeps(wishes, shape), True)
    case.assertEqual(len(prices), len(net[0]))
    case.assertEqual(bound(net, prices), cost(wishes, shape))
    case.assertIs(shows_fewest(web, outer, wishes, shape, prices), True)
    return cost(wishes, shape)


class Refusals(unittest.TestCase):
    def test_no_map(self):
        for wrong in [
            (0, [], []), (1, [], [[]]), (2, [(0, 1)], [[0]]), (2, [(0, 1)], [[1], [0]]), (2, [(0, 2)], [[0], [1]]),
            (2, [(0, 0)], [[0, 1], []]), (-1, [(0, 1)], [[0], [1]]), (1, [(-1, 0)], [[0, 1]]),
            (1, [(0, 0)] * 3, [[0, 1, 2, 3, 4, 5]]),
        ]:
            for outer in [0, -1, 99]:
                with self.assertRaises(NoMap):
                    fewest(wrong, outer, free_wishes(wrong))

    def test_no_map_comes_ahead_of_not_flat(self):
        many, ties, orders = samples.crossing_loops()
        with self.assertRaises(NoMap):
            fewest((many + 1, ties, orders + [[]]), 99, free_wishes((many, ties, orders)))

    def test_not_flat_comes_ahead_of_no_land(self):
        for make in samples.NOT_FLAT:
            for outer in [0, -1, 1, 99]:
                with self.assertRaises(NotFlat):
                    fewest(make(), outer, free_wishes(make()))

    def test_no_land(self):
        for make in samples.FLAT:
            many = len(lands(make()))
            for outer in [many, many + 1, -1, -many, 10 ** 30, -(10 ** 30)]:
                with self.assertRaises(NoLand):
                    fewest(make(), outer, free_wishes(make()))


class Fewest(unittest.TestCase):
    def test_the_fewest_turns_by_hand(self):
        wanted = {
            samples.single_tie: [0], samples.self_tie: [3, 3], samples.ring: [1, 1], samples.tree: [0],
            samples.two_ties: [2, 2], samples.three_ties: [4, 4, 4], samples.star: [0],
            samples.side_loops: [8, 6, 8], samples.nested_loops: [6, 8, 8], samples.flag: [6, 5, 7],
        }
        self.assertEqual(sorted(wanted, key=str), sorted(samples.FLAT, key=str))
        for make, costs in wanted.items():
            with self.subTest(make.__name__):
                told = [look_at(self, make(), outer, free_wishes(make())) for outer in range(len(costs))]
                self.assertEqual(told, costs)

    def test_weights_move_the_turns(self):
        # The ring must turn once, where it is cheapest.
        for tie in range(3):
            wishes = (with_part([5, 6, 7], tie, 4), [None] * 3, [None] * 6)
            self.assertEqual(look_at(self, samples.ring(), 1, wishes), 4)
            told = fewest(samples.ring(), 1, wishes)
            self.assertEqual(turns(told[1]), with_part([0, 0, 0], tie, 1))

    def test_weights_of_nought(self):
        self.assertEqual(look_at(self, samples.ring(), 1, ([0, 0, 0], [None] * 3, [None] * 6)), 0)
        self.assertEqual(look_at(self, samples.flag(), 2, ([0] * 5, [None] * 5, [None] * 10)), 0)
        # Turns are free at one tie alone.
        self.assertEqual(look_at(self, samples.ring(), 1, ([1000, 0, 1000], [None] * 3, [None] * 6)), 0)
        self.assertEqual(look_at(self, samples.side_loops(), 0, ([0, 1000], [None] * 2, [None] * 4)), 3000)

    def test_the_ring_with_wishes_by_hand(self):
        # End 4 has the corner 1, end 1 the corner 3; tie 1 may not turn: tie 2 turns once at cost 2.
        self.assertEqual(look_at(self, samples.ring(), 1, ring_wishes()), 2)
        # With land 0 as the outer one its corners 3, 3 and 1 come to -1, so three turns to the right are wanting.
        sets = [3, 3, 3, 1, 1, 1]
        told = look_at(self, samples.ring(), 0, ([5, 0, 2], [None, 0, 3], sets))
        self.assertEqual(told, 6)
        told = look_at(self, samples.ring(), 0, ([5, 0, 2], [None, 0, 2], sets))
        self.assertEqual(told, 9)
        self.assertIsNone(look_at(self, samples.ring(), 0, ([5, 0, 2], [0, 0, 2], sets)))

    def test_bars_by_hand(self):
        for bar, wanted in [(0, None), (1, None), (2, None), (3, 3), (4, 3), (40, 3)]:
            self.assertEqual(look_at(self, samples.self_tie(), 1, ([1], [bar], [None, None])), wanted)
        for bars, wanted in [([0, 0], None), ([1, 0], None), ([1, 1], 11), ([2, 0], 2), ([0, 2], 20), ([1, None], 11)]:
            told = look_at(self, samples.two_ties(), 1, ([1, 10], bars, [None] * 4))
            self.assertEqual(told, wanted)
        self.assertIsNone(look_at(self, samples.ring(), 1, ([1] * 3, [0] * 3, [None] * 6)))

    def test_set_corners_by_hand(self):
        # With n straight corners of the ring it must turn so often more.
        for sets, wanted in [
            ([1, None, 1, None, 1, None], 1), ([2, None, 1, None, 1, None], 2), ([2, None, 2, None, 1, None], 3),
            ([2, None, 2, None, 2, None], 4), ([3, None, 3, None, 3, None], 7), ([None, 3, None, 3, None, 3], 1),
        ]:
            self.assertEqual(look_at(self, samples.ring(), 1, ([1] * 3, [None] * 3, sets)), wanted)

    def test_set_corners_that_no_place_can_have(self):
        none = [None] * 6
        # A place with two ends has corners that come to 4, each 1 or more.
        self.assertIsNone(look_at(self, samples.ring(), 1, ([1] * 3, [None] * 3, with_part(none, 0, 4))))
        sets = [2, None, None, 1, None, None]
        self.assertIsNone(look_at(self, samples.ring(), 1, ([1] * 3, [None] * 3, sets)))
        self.assertIsNone(look_at(self, samples.single_tie(), 0, ([1], [None], [3, None])))
        self.assertEqual(look_at(self, samples.single_tie(), 0, ([1], [None], [4, 4])), 0)

    def test_without_bars_and_set_corners_always_a_shape(self):
        for web in samples.small_maps():
            if is_flat(web):
                for outer in range(len(lands(web))):
                    self.assertIsNotNone(look_at(self, web, outer, free_wishes(web)))

    def test_small_maps_against_all_shapes(self):
        words = [0, 0]
        for number, web in enumerate(samples.small_maps()):
            if not is_flat(web) or len(web[1]) > 2:
                continue
            for outer in range(len(lands(web))):
                shapes = all_shapes(web, outer, 6)
                for seed in range(6):
                    wishes = drawn_wishes(seed + 10 * number, web, 3, 4 if seed % 2 else None, seed // 2)
                    costs = [cost(wishes, shape) for shape in shapes if keeps(wishes, shape)]
                    # Turns beyond six at a tie save nothing here, and bars let by four at most.
                    told = look_at(self, web, outer, wishes)
                    self.assertEqual(told, min(costs, default=None), (web, outer, wishes))
                    words[told is None] += 1
        self.assertGreater(min(words), 50)

    def test_drawn_maps(self):
        words = [0, 0]
        for seed in range(150):
            web = drawn_map(seed, 1 + seed % 10, min(2 + seed % 15 + seed % 10, 2 + 2 * (seed % 10), 16))
            wishes = drawn_wishes(seed, web, [0, 1, 5, 1000][seed % 4], [None, 1, 3, 40][seed // 4 % 4], seed % 3)
            for outer in range(len(lands(web))):
                told = look_at(self, web, outer, wishes)
                words[told is None] += 1
                if told is None:
                    self.assertNotEqual(wishes[1:], free_wishes(web)[1:])
        self.assertGreater(min(words), 50)

    def test_wishes_that_a_shape_is_known_to_keep(self):
        for seed in range(40):
            web = drawn_map(seed, 10, 16)
            outer = seed % len(lands(web))
            known = fewest(web, outer, drawn_wishes(seed, web, 9, None, 0))[1]
            draws = drawn_wishes(seed, web, 9, None, 5)
            sets = [corner if wanted else None for corner, wanted in zip(known[0], draws[2])]
            wishes = (draws[0], turns(known), sets)
            told = look_at(self, web, outer, wishes)
            self.assertLessEqual(told, cost(wishes, known))

    def test_the_greatest_maps(self):
        for seed in range(12):
            web = drawn_map(seed, 10, 16)
            for wishes in [free_wishes(web), drawn_wishes(seed, web, 1000, 40, 1)]:
                for outer in range(len(lands(web))):
                    look_at(self, web, outer, wishes)

    def test_maps_that_are_greater(self):
        web = samples.long_ring(200, 0)
        self.assertEqual(look_at(self, web, 1, free_wishes(web)), 0)
        web = drawn_map(5, 40, 60)
        self.assertIsNotNone(look_at(self, web, 3, free_wishes(web)))


def all_shapes(web, outer, most):
    """All shortened shapes with at most so many turns at a tie."""
    ties = len(web[1])
    found = []
    lefts = []
    for differences in itertools.product(range(-most, most + 1), repeat=ties):
        lefts.append([max(0, sign * d) for d in differences for sign in (1, -1)])
    for corners in itertools.product([1, 2, 3, 4], repeat=2 * ties):
        sums = [0] * web[0]
        for end, corner in enumerate(corners):
            sums[web[1][end // 2][1 - end % 2]] += corner
        if set(sums) == {4}:
            found += [(list(corners), left) for left in lefts if is_shape(web, outer, (list(corners), left))]
    return found


class ShowsFewest(unittest.TestCase):
    WISHES = ([1, 2, 3], [None, None, 4], [None] * 6)

    def setUp(self):
        self.web = samples.ring()
        word, self.shape, self.prices = fewest(self.web, 1, self.WISHES)

    def told(self, shape, prices, wishes=WISHES, outer=1):
        return shows_fewest(samples.ring(), outer, wishes, shape, prices)

    def test_by_hand(self):
        shape = ([1, 3, 1, 3, 1, 3], [1, 0, 0, 0, 0, 0])
        self.assertIs(self.told(shape, [0, 0, 0, 1, 0]), True)
        self.assertIs(self.told(shape, [7, 7, 7, 8, 7]), True)
        self.assertIs(self.told(shape, [0, 0, 0, 2, 0]), False)
        self.assertIs(self.told(shape, [0, 0, 0, 0, 0]), False)
        self.assertIs(self.told(shape, [0, 0, 0, 0, 1]), False)
        # Another one that costs as much.
        shape = ([1, 3, 1, 3, 1, 3], [1, 0, 1, 1, 0, 0])
        self.assertIs(self.told(shape, [0, 0, 0, 1, 0]), False)
        free = ([1, 0, 3], [None] * 3, [None] * 6)
        self.assertIs(self.told(shape, [0, 0, 0, 0, 0], free), False)
        shape = ([1, 3, 1, 3, 1, 3], [0, 0, 9, 8, 0, 0])
        self.assertIs(self.told(shape, [0, 0, 0, 0, 0], free), True)

    def test_what_is_told(self):
        self.assertIs(self.told(self.shape, self.prices), True)

    def test_prices_more_or_fewer(self):
        for wrong in [[], self.prices[:-1], self.prices[1:], self.prices + [0], self.prices * 2, [0] * 500]:
            self.assertIs(self.told(self.shape, wrong), False)

    def test_prices_that_bound_less(self):
        net = net_of(self.web, 1, self.WISHES)
        for change in itertools.product([-2, -1, 0, 1, 2], repeat=5):
            prices = [price + more for price, more in zip(self.prices, change)]
            right = bound(net, prices) == cost(self.WISHES, self.shape)
            self.assertIs(self.told(self.shape, prices), right)
            if len(set(change)) == 1:
                self.assertIs(right, True)
        self.assertIs(self.told(self.shape, [price + GREAT - 9 for price in self.prices]), True)
        self.assertIs(self.told(self.shape, [GREAT] * 5), False)
        self.assertIs(self.told(self.shape, [GREAT, -GREAT, 0, 0, 0]), False)

    def test_prices_that_bound_nothing(self):
        # The tie 0 has no bar, so a greater difference than its weight has no least.
        self.assertIsNone(bound(net_of(self.web, 1, self.WISHES), [0, 0, 0, 9, 0]))
        self.assertIs(self.told(self.shape, [0, 0, 0, 9, 0]), False)

    def test_numbers_of_the_shape_more_or_fewer(self):
        corners, lefts = self.shape
        for wrong in [
            ([], []), (corners, []), ([], lefts), (corners[:-1], lefts), (corners, lefts[:-1]),
            (corners + [1], lefts), (corners, lefts + [0]), (corners + [2, 2], lefts + [0, 0]),
            (corners[:-2], lefts[:-2]),
        ]:
            self.assertIs(self.told(wrong, self.prices), False)

    def test_another_shape(self):
        corners, lefts = self.shape
        for end in range(6):
            for more in [1, -1, 4]:
                wrong = (with_part(corners, end, corners[end] + more), lefts)
                self.assertIs(self.told(wrong, self.prices), False)
                wrong = (corners, with_part(lefts, end, lefts[end] + more))
                self.assertIs(self.told(wrong, self.prices), False)
        dearer = ([1, 3, 1, 3, 1, 3], [0, 0, 1, 0, 0, 0])
        self.assertIs(is_shape(self.web, 1, dearer), True)
        self.assertIs(self.told(dearer, self.prices), False)

    def test_a_shape_of_another_outer_land(self):
        self.assertIs(self.told(self.shape, self.prices, outer=0), False)
        other = fewest(self.web, 0, self.WISHES)
        self.assertIs(self.told(other[1], other[2]), False)
        self.assertIs(self.told(other[1], other[2], outer=0), True)

    def test_a_shape_that_doesnt_keep_the_wishes(self):
        # Weights of nought: each shape costs least, by prices alike, but for the bars and sets.
        shape = ([1, 3, 1, 3, 1, 3], [0, 0, 1, 0, 0, 0])
        for bars, sets, right in [
            ([None] * 3, [None] * 6, True), ([0, 1, 0], [1, 3, 1, 3, 1, 3], True), ([0, 0, 1], [None] * 6, False),
            ([None] * 3, [2, None, None, None, None, None], False), ([None] * 3, [None] * 5 + [2], False),
        ]:
            self.assertIs(self.told(shape, [0] * 5, ([0] * 3, bars, sets)), right)

    def test_shapes_that_arent_shortened(self):
        # They are shapes, and show as much where turns are free.
        shape = ([4, 4], [3, 2])
        web = samples.single_tie()
        self.assertIs(shows_fewest(web, 0, ([0], [None], [None] * 2), shape, [0, 0, 0]), True)
        self.assertIs(shows_fewest(web, 0, ([0], [5], [None] * 2), shape, [0, 0, 0]), True)
        self.assertIs(shows_fewest(web, 0, ([0], [4], [None] * 2), shape, [0, 0, 0]), False)
        self.assertIs(shows_fewest(web, 0, ([1], [None], [None] * 2), shape, [0, 0, 0]), False)


class ShowsNone(unittest.TestCase):
    WISHES = ([1, 1, 1], [0, 0, 0], [None] * 6)

    def test_by_hand(self):
        # Three corners of 1 or more come into the land 0, whose need is -2.
        self.assertIs(shows_none(samples.ring(), 1, self.WISHES, [3]), True)
        self.assertIs(shows_none(samples.ring(), 0, self.WISHES, [4]), True)
        self.assertIs(shows_none(samples.ring(), 0, self.WISHES, [3]), False)

    def test_all_lists(self):
        net = net_of(samples.ring(), 1, self.WISHES)
        for count in range(4):
            for lot in itertools.product(range(-1, 6), repeat=count):
                told = shows_none(samples.ring(), 1, self.WISHES, list(lot))
                self.assertIs(told, is_lot(net, list(lot)))

    def test_what_is_no_lot(self):
        for wrong in [[], [3, 3], [5], [-1], [-2], [0], [0, 1, 2, 3, 4], [3, 5], [3, -1], [10 ** 30], [0] * 500]:
            self.assertIs(shows_none(samples.ring(), 1, self.WISHES, wrong), False)

    def test_a_lot_of_other_wishes(self):
        for wishes in [([1] * 3, [1, 0, 0], [None] * 6), free_wishes(samples.ring())]:
            self.assertIs(shows_none(samples.ring(), 1, wishes, [3]), False)

    def test_where_there_is_a_shape_there_is_no_lot(self):
        web = samples.ring()
        for wishes in [free_wishes(web), ring_wishes()]:
            for count in range(6):
                for lot in itertools.combinations(range(5), count):
                    self.assertIs(shows_none(web, 1, wishes, list(lot)), False)


class AskersOwn(unittest.TestCase):
    def test_net_of_and_fewest_tell_new_lists(self):
        for make in samples.FLAT:
            for outer in range(len(lands(make()))):
                for most_bar in [None, 0, 2]:
                    def arguments():
                        return (make(), outer, drawn_wishes(outer, make(), 3, most_bar, 0))
                    samples.held(self, net_of, arguments)
                    samples.held(self, fewest, arguments)
        samples.held(self, fewest, lambda: (samples.ring(), 1, ([1] * 3, [0] * 3, [None] * 6)))

    def test_the_judges_change_nothing(self):
        for make, outer, shape in samples.SHAPES:
            web, wishes = make(), drawn_wishes(1, make(), 5, 3, 2)
            handed = (list(shape[0]), list(shape[1]))
            prices, lot = [0] * (len(web[1]) + 2), [0]
            for _ in range(2):
                keeps(wishes, handed)
                cost(wishes, handed)
                shows_fewest(web, outer, wishes, handed, prices)
                shows_none(web, outer, wishes, lot)
            self.assertEqual((web, wishes, handed), (make(), drawn_wishes(1, make(), 5, 3, 2), shape))
            self.assertEqual((prices, lot), ([0] * (len(web[1]) + 2), [0]))

    def test_cheapest_tells_no_less_of_that_net(self):
        for make in samples.FLAT:
            for outer in range(len(lands(make()))):
                told = fewest(make(), outer, free_wishes(make()))
                going = cheapest(net_of(make(), outer, free_wishes(make())))[1]
                net = net_of(make(), outer, free_wishes(make()))
                self.assertEqual(cost_of(net, going), cost(free_wishes(make()), told[1]))


if __name__ == "__main__":
    unittest.main()
