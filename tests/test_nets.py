import itertools
import random
import unittest

from fewbends.errors import NoNet
from fewbends.nets import bound, cheapest, cost_of, is_going, is_lot, is_round
from tests import samples

GREAT = 10 ** 40 - 1


def small_net():
    """Three knots: a short cut of two that is cheap, and a way of five that is dear."""
    return ([3, 0, -3], [(0, 1, 0, 2, 1), (1, 2, 0, None, 1), (0, 2, 0, 5, 4)])


def below_nought():
    return ([-4, 4], [(0, 1, -7, -2, -3), (1, 0, -1, 1, 5), (0, 0, -2, 3, -5)])


def blocked_net():
    return ([3, -3, 0], [(0, 1, 0, 2, 1), (1, 2, -3, None, -1), (2, 0, 1, 4, 0)])


def endless_net():
    return ([0, 0, 0], [(0, 1, 0, None, 1), (1, 0, 2, 9, -9), (1, 2, 0, None, 0), (2, 0, 0, None, -2)])


RIGHT = [small_net, below_nought, blocked_net, endless_net]


def wrong_nets():
    """Each is off in one thing alone."""
    yield ([], [])
    yield ([1], [])
    yield ([0, 1], [(0, 1, 0, None, 0)])
    yield ([5, -4], [(0, 1, 0, 9, 1)])
    yield ([-1], [(0, 0, 0, 9, 1)])
    yield ([4, -5], [(0, 1, 0, 9, 1)])
    for knot in [2, 3, -1, -2, 10 ** 30, -(10 ** 30)]:
        yield ([1, -1], [(0, 1, 0, 2, 0), (0, knot, 0, 2, 0)])
        yield ([1, -1], [(0, 1, 0, 2, 0), (knot, 1, 0, None, 0)])
    yield ([1, -1], [(0, 1, 0, 2, 0), (2, 2, 0, 2, 0)])
    yield ([0], [(0, 1, 0, 0, 0)])
    for low, high in [(1, 0), (0, -1), (-3, -4), (1000, -1000), (3, 2)]:
        yield ([1, -1], [(0, 1, low, high, 0), (0, 1, 0, None, 0)])
        yield ([1, -1], [(0, 1, 0, None, 0), (1, 1, low, high, 0)])


def drawn_net(seed, knots, ways, width, cost, free, off):
    """A net with a going, but where it is off: then the needs of two knots are changed by so much."""
    draw = random.Random(seed)
    told = []
    needs = [0] * knots
    for _ in range(ways):
        a, b = draw.randrange(knots), draw.randrange(knots)
        low = draw.randint(-width, width)
        high = None if draw.random() < free else draw.randint(low, min(low + width, 1000))
        told.append((a, b, low, high, draw.randint(-cost, cost)))
        number = draw.randint(low, low + width if high is None else high)
        needs[a] += number
        needs[b] -= number
    needs[draw.randrange(knots)] += off
    needs[draw.randrange(knots)] -= off
    return (needs, told)


class Refusals(unittest.TestCase):
    def test_each_function_refuses_what_is_no_net(self):
        for net in wrong_nets():
            with self.subTest(net):
                for handed in [[], [0], [0, 0], [1, 0], [-1], [10 ** 30] * 3, [0] * 500]:
                    for ask in [is_going, cost_of, bound, is_lot, is_round]:
                        with self.assertRaises(NoNet):
                            ask(net, handed)
                with self.assertRaises(NoNet):
                    cheapest(net)

    def test_nothing_else_is_refused(self):
        nets = [make() for make in RIGHT]
        nets += [([0], []), ([0], [(0, 0, 5, 5, 0)]), ([0, 0], []), ([7, -7], [(1, 0, -9, -9, 3)])]
        for net in nets:
            for handed in [[], [0], [-1], [5, 5], [10 ** 30], [0] * 500, list(range(500))]:
                for ask in [is_going, is_lot, is_round]:
                    self.assertIn(ask(net, handed), [True, False])
            bound(net, [0] * len(net[0]))
            cheapest(net)

    def test_a_high_as_great_as_the_low(self):
        self.assertIs(is_going(([2, -2], [(0, 1, 2, 2, 0)]), [2]), True)
        self.assertIs(is_going(([-2, 2], [(0, 1, -2, -2, 0)]), [-2]), True)


class Goings(unittest.TestCase):
    def test_right_ones(self):
        self.assertIs(is_going(small_net(), [2, 2, 1]), True)
        self.assertIs(is_going(small_net(), [0, 0, 3]), True)
        self.assertIs(is_going(small_net(), [1, 1, 2]), True)
        self.assertIs(is_going(below_nought(), [-4, 0, 0]), True)
        self.assertIs(is_going(below_nought(), [-3, 1, -2]), True)
        self.assertIs(is_going(below_nought(), [-5, -1, 3]), True)

    def test_a_number_more_or_fewer(self):
        for wrong in [[2, 2], [], [2], [2, 2, 1, 0], [2, 2, 1, 1]]:
            self.assertIs(is_going(small_net(), wrong), False)
        self.assertIs(is_going(([0, 0], []), []), True)
        self.assertIs(is_going(([0, 0], []), [0]), False)
        self.assertIs(is_going(([0], [(0, 0, 0, 5, 1)]), []), False)

    def test_below_a_low_and_above_a_high(self):
        self.assertIs(is_going(small_net(), [3, 3, 0]), False)
        self.assertIs(is_going(small_net(), [-1, -1, 4]), False)
        self.assertIs(is_going(small_net(), [-2, -2, 5]), False)
        self.assertIs(is_going(below_nought(), [-2, 2, 0]), False)
        self.assertIs(is_going(below_nought(), [-6, -2, 0]), False)
        self.assertIs(is_going(below_nought(), [-4, 0, 4]), False)
        self.assertIs(is_going(below_nought(), [-4, 0, -3]), False)
        self.assertIs(is_going(([0, 0], [(0, 1, 1, None, 0), (1, 0, 0, None, 0)]), [0, 0]), False)

    def test_a_need_that_is_off(self):
        for wrong in [[2, 2, 0], [2, 1, 1], [1, 2, 1], [2, 2, 2], [0, 0, 0], [0, 1, 3]]:
            self.assertIs(is_going(small_net(), wrong), False)

    def test_what_goes_from_a_knot_to_itself_does_both(self):
        net = ([1, -1], [(0, 0, -5, 5, 1), (0, 1, 0, 9, 1)])
        for number in range(-5, 6):
            self.assertIs(is_going(net, [number, 1]), True)
            self.assertIs(is_going(net, [number, 1 + number]), number == 0)
        self.assertIs(is_going(net, [6, 1]), False)
        self.assertIs(is_going(net, [-6, 1]), False)

    def test_ways_without_a_bound(self):
        net = ([0, 0], [(0, 1, 3, None, 1), (1, 0, 3, None, 1)])
        self.assertIs(is_going(net, [GREAT, GREAT]), True)
        self.assertIs(is_going(net, [3, 3]), True)
        self.assertIs(is_going(net, [2, 2]), False)
        self.assertIs(is_going(net, [GREAT, GREAT - 1]), False)

    def test_all_numbers_by_the_words_of_the_point(self):
        for make in [small_net, below_nought]:
            needs, ways = make()
            for numbers in itertools.product(range(-8, 7), repeat=3):
                right = all(w[2] <= n and (w[3] is None or n <= w[3]) for w, n in zip(ways, numbers))
                for knot, need in enumerate(needs):
                    out = sum(n for w, n in zip(ways, numbers) if w[0] == knot)
                    come = sum(n for w, n in zip(ways, numbers) if w[1] == knot)
                    right = right and out - come == need
                self.assertIs(is_going(make(), list(numbers)), right)

    def test_cost_of(self):
        self.assertEqual(cost_of(small_net(), [2, 2, 1]), 8)
        self.assertEqual(cost_of(small_net(), [0, 0, 3]), 12)
        self.assertEqual(cost_of(below_nought(), [-4, 0, 0]), 12)
        self.assertEqual(cost_of(below_nought(), [-3, 1, -2]), 24)
        self.assertEqual(cost_of(below_nought(), [-5, -1, 3]), -5)
        self.assertEqual(cost_of(([0, 0], []), []), 0)
        self.assertEqual(cost_of(([0], [(0, 0, 0, None, -3)]), [GREAT]), -3 * GREAT)


class Bounds(unittest.TestCase):
    def test_best_at_the_low_at_the_high_and_no_matter(self):
        # The rate of the way is 1 - 0 + p: 6, -4 and 0.
        net = ([0, 0], [(0, 1, 2, 7, 1)])
        self.assertEqual(bound(net, [0, 5]), 12)
        self.assertEqual(bound(net, [0, -5]), -28)
        self.assertEqual(bound(net, [0, -1]), 0)
        self.assertEqual(bound(net, [3, 2]), 0)

    def test_lows_and_highs_below_nought(self):
        net = ([0, 0], [(0, 1, -7, -2, 1)])
        self.assertEqual(bound(net, [0, 5]), -42)
        self.assertEqual(bound(net, [0, -5]), 8)
        net = ([0, 0], [(0, 1, -7, 4, 1)])
        self.assertEqual(bound(net, [0, 5]), -42)
        self.assertEqual(bound(net, [0, -5]), -16)

    def test_needs_count_with_their_prices(self):
        self.assertEqual(bound(([3, -3], []), [5, 2]), 9)
        self.assertEqual(bound(([3, -5, 2], []), [1, 10, 100]), 153)
        self.assertEqual(bound(([0], []), [77]), 0)

    def test_a_way_without_a_bound(self):
        net = ([0, 0], [(0, 1, 3, None, 1)])
        self.assertEqual(bound(net, [0, 5]), 18)
        self.assertEqual(bound(net, [1, 0]), 0)
        self.assertIsNone(bound(net, [2, 0]))
        self.assertIsNone(bound(net, [0, -2]))
        net = ([0, 0], [(0, 1, -3, None, 1)])
        self.assertEqual(bound(net, [0, 5]), -18)
        self.assertEqual(bound(net, [1, 0]), 0)
        self.assertIsNone(bound(net, [2, 0]))

    def test_one_way_that_has_no_least_is_enough(self):
        self.assertIsNone(bound(endless_net(), [0, 0, 0]))
        for prices in itertools.product(range(-3, 4), repeat=3):
            self.assertIsNone(bound(endless_net(), list(prices)))

    def test_a_way_from_a_knot_to_itself(self):
        for price in [0, 7, -7]:
            self.assertEqual(bound(([0], [(0, 0, -2, 3, 5)]), [price]), -10)
            self.assertEqual(bound(([0], [(0, 0, -2, 3, -5)]), [price]), -15)
            self.assertEqual(bound(([0], [(0, 0, 4, None, 5)]), [price]), 20)
            self.assertIsNone(bound(([0], [(0, 0, 4, None, -1)]), [price]))

    def test_worked_out_by_hand(self):
        # 4 * 3 for the first need, and 2 times the rate 1 - 4 + 1 of the short cut.
        self.assertEqual(bound(small_net(), [4, 1, 0]), 8)
        self.assertEqual(bound(small_net(), [0, 0, 0]), 0)
        self.assertEqual(bound(small_net(), [5, 1, 0]), 15 - 6 - 5)
        self.assertIsNone(bound(small_net(), [4, 2, 0]))

    def test_prices_of_forty_figures(self):
        net = ([2, -2], [(0, 1, -1, 6, 0), (1, 0, 0, 3, 1)])
        self.assertEqual(bound(net, [GREAT, 0]), 2 * GREAT - 6 * GREAT)
        self.assertEqual(bound(net, [0, GREAT]), -2 * GREAT - GREAT + 3 * (1 - GREAT))
        self.assertEqual(bound(net, [-GREAT, -GREAT]), 0)
        self.assertEqual(bound(net, [GREAT, -GREAT]), 4 * GREAT - 12 * GREAT)

    def test_by_the_words_of_the_point(self):
        for make in [below_nought, lambda: ([1, 2, -3], [(0, 2, -2, 3, 1), (1, 0, -1, 0, -2), (2, 1, 0, 4, 3)])]:
            needs, ways = make()
            for prices in itertools.product(range(-4, 5), repeat=len(needs)):
                wanted = sum(price * need for price, need in zip(prices, needs))
                for a, b, low, high, cost in ways:
                    wanted += min(x * (cost - prices[a] + prices[b]) for x in range(low, high + 1))
                self.assertEqual(bound(make(), list(prices)), wanted)

    def test_no_going_costs_less_than_prices_bound(self):
        for seed in range(60):
            net = drawn_net(seed, 3, 4, 3, 4, 0.0, 0)
            goings = all_goings(net)
            self.assertTrue(goings)
            least = min(cost_of(net, going) for going in goings)
            for prices in itertools.product([-5, -1, 0, 2, 3], repeat=3):
                self.assertLessEqual(bound(net, list(prices)), least)


def all_goings(net):
    """All goings of a net whose ways all have bounds, tried one by one."""
    needs, ways = net
    found = []
    for numbers in itertools.product(*[range(low, high + 1) for a, b, low, high, cost in ways]):
        rest = list(needs)
        for (a, b, low, high, cost), number in zip(ways, numbers):
            rest[a] -= number
            rest[b] += number
        if not any(rest):
            found.append(list(numbers))
    return found


class Lots(unittest.TestCase):
    def test_right_ones(self):
        # Out of knot 0 go 2 at the most, and 1 at the least comes in: its need is 3.
        self.assertIs(is_lot(blocked_net(), [0]), True)
        net = ([5, 1, -6], [(0, 2, 0, 2, 0), (1, 2, 0, 3, 0), (0, 1, 0, None, 0), (2, 1, -4, -1, 0)])
        self.assertIs(is_lot(net, [1, 0]), False)
        net = ([8, 1, -9], net[1])
        self.assertIs(is_lot(net, [0, 1]), False)
        net = ([9, 1, -10], net[1])
        # 5 go out at the most, and -4 come in at the least: 9 together.
        self.assertIs(is_lot(net, [0, 1]), True)
        self.assertIs(is_lot(net, [1, 0]), True)

    def test_the_empty_list(self):
        for make in RIGHT:
            self.assertIs(is_lot(make(), []), False)

    def test_a_knot_twice(self):
        self.assertIs(is_lot(blocked_net(), [0, 0]), False)
        net = ([4, 4, -8], [(0, 2, 0, 1, 0), (1, 2, 0, 1, 0)])
        self.assertIs(is_lot(net, [0, 1]), True)
        for lot in [[0, 1, 0], [0, 1, 1], [1, 1], [0, 0, 0]]:
            self.assertIs(is_lot(net, lot), False)

    def test_what_is_no_knot(self):
        for wrong in [3, 4, -1, -2, -3, 10 ** 30, -(10 ** 30)]:
            self.assertIs(is_lot(blocked_net(), [wrong]), False)
            self.assertIs(is_lot(blocked_net(), [0, wrong]), False)
            self.assertIs(is_lot(blocked_net(), [wrong, 0]), False)

    def test_a_way_without_a_bound_that_leads_out(self):
        net = ([9, -9], [(0, 1, 0, None, 0)])
        self.assertIs(is_lot(net, [0]), False)
        self.assertIs(is_lot(net, [1]), False)
        # Within the lot, and into it, such ways do no harm.
        net = ([9, 0, -9], [(0, 1, 0, None, 0), (1, 0, 0, None, 0), (2, 0, 0, None, 0), (0, 2, 0, 5, 0)])
        self.assertIs(is_lot(net, [0, 1]), True)
        self.assertIs(is_lot(net, [0]), False)
        self.assertIs(is_lot(net, [1]), False)

    def test_needs_that_are_just_the_highs_less_the_lows(self):
        for need in range(-6, 7):
            net = ([need, -need], [(0, 1, -9, 4, 0), (1, 0, 3, 8, 0)])
            self.assertIs(is_lot(net, [0]), need > 4 - 3)
            self.assertIs(is_lot(net, [1]), -need > 8 + 9)

    def test_all_knots_are_never_a_lot(self):
        for make in RIGHT:
            net = make()
            self.assertIs(is_lot(net, list(range(len(net[0])))), False)

    def test_a_way_from_a_knot_to_itself_leads_nowhere(self):
        self.assertIs(is_lot(([1, -1], [(0, 0, 0, None, 0)]), [0]), True)
        self.assertIs(is_lot(([1, -1], [(0, 0, 1, 5, 0)]), [0]), True)
        self.assertIs(is_lot(([0, 0], [(0, 0, 1, 5, 0)]), [0]), False)
        self.assertIs(is_lot(([0, 0], [(0, 0, -5, -1, 0)]), [0]), False)

    def test_all_lists_by_the_words_of_the_point(self):
        for seed in range(80):
            net = drawn_net(seed, 4, 6, 2, 1, 0.2, seed % 4)
            for count in range(5):
                for lot in itertools.product(range(-1, 5), repeat=count):
                    self.assertIs(is_lot(net, list(lot)), lot_by_the_words(net, lot), (net, lot))


def lot_by_the_words(net, lot):
    needs, ways = net
    if not lot or len(set(lot)) < len(lot) or not set(lot) <= set(range(len(needs))):
        return False
    leading_out = [way for way in ways if way[0] in lot and way[1] not in lot]
    leading_in = [way for way in ways if way[0] not in lot and way[1] in lot]
    if any(way[3] is None for way in leading_out):
        return False
    highs = sum(way[3] for way in leading_out)
    lows = sum(way[2] for way in leading_in)
    return sum(needs[knot] for knot in lot) > highs - lows


class Rounds(unittest.TestCase):
    def test_right_ones(self):
        for ring in [[0, 2, 3], [2, 3, 0], [3, 0, 2]]:
            self.assertIs(is_round(endless_net(), ring), True)
        self.assertIs(is_round(([0], [(0, 0, 0, None, -1)]), [0]), True)

    def test_ways_alike_are_two(self):
        net = ([0, 0], [(0, 1, 0, None, -1), (0, 1, 0, None, -1), (1, 0, 0, None, 0)])
        self.assertIs(is_round(net, [0, 2]), True)
        self.assertIs(is_round(net, [1, 2]), True)
        self.assertIs(is_round(net, [0, 1]), False)
        net = ([0, 0], [(0, 1, 0, None, -1), (0, 1, 0, None, -1), (1, 0, 0, None, 0), (1, 0, 0, None, 0)])
        self.assertIs(is_round(net, [0, 2, 1, 3]), True)
        self.assertIs(is_round(net, [0, 2, 0, 3]), False)
        self.assertIs(is_round(net, [0, 2, 1, 2]), False)
        self.assertIs(is_round(net, [0, 2, 0, 2]), False)
        net = ([0], [(0, 0, 0, None, -1), (0, 0, 0, None, -1)])
        self.assertIs(is_round(net, [0, 1]), True)
        self.assertIs(is_round(net, [0, 0]), False)

    def test_the_empty_list(self):
        for make in RIGHT:
            self.assertIs(is_round(make(), []), False)

    def test_what_is_no_way(self):
        for wrong in [4, 5, -1, -2, -4, 10 ** 30, -(10 ** 30)]:
            self.assertIs(is_round(endless_net(), [wrong]), False)
            self.assertIs(is_round(endless_net(), [0, 2, wrong]), False)
            self.assertIs(is_round(endless_net(), [wrong, 0, 2]), False)
        self.assertIs(is_round(([0], [(0, 0, 0, None, -1)]), [-1]), False)
        self.assertIs(is_round(([0], []), [0]), False)

    def test_a_way_with_a_bound(self):
        self.assertIs(is_round(endless_net(), [0, 1]), False)
        self.assertIs(is_round(([0], [(0, 0, 0, 1000, -1)]), [0]), False)
        self.assertIs(is_round(([0], [(0, 0, 0, 0, -1)]), [0]), False)

    def test_ways_that_dont_follow_one_another(self):
        for ring in [[0, 3, 2], [2, 0, 3], [3, 2, 0], [0, 3], [2, 3], [3, 0], [3], [2]]:
            self.assertIs(is_round(endless_net(), ring), False)

    def test_the_last_and_the_first(self):
        net = ([0, 0, 0], [(0, 1, 0, None, -1), (1, 2, 0, None, -1), (2, 1, 0, None, -1)])
        self.assertIs(is_round(net, [1, 2]), True)
        self.assertIs(is_round(net, [0, 1]), False)
        self.assertIs(is_round(net, [0, 1, 2]), False)
        self.assertIs(is_round(net, [0]), False)

    def test_costs_that_come_to_nought_or_more(self):
        for cost in range(-3, 4):
            net = ([0, 0], [(0, 1, 0, None, 1), (1, 0, 0, None, cost)])
            self.assertIs(is_round(net, [0, 1]), 1 + cost < 0)
            self.assertIs(is_round(([0], [(0, 0, 0, None, cost)]), [0]), cost < 0)

    def test_a_knot_may_be_come_to_twice(self):
        net = (
            [0, 0, 0],
            [(0, 1, 0, None, -1), (1, 0, 0, None, -1), (0, 2, 0, None, 0), (2, 0, 0, None, 0)],
        )
        self.assertIs(is_round(net, [0, 1, 2, 3]), True)
        self.assertIs(is_round(net, [2, 3, 0, 1]), True)
        self.assertIs(is_round(net, [0, 2, 1, 3]), False)

    def test_all_lists_by_the_words_of_the_point(self):
        for seed in range(40):
            net = drawn_net(seed, 2 + seed % 2, 5, 2, 2, 0.7, 0)
            for count in range(5):
                for ring in itertools.product(range(-1, 6), repeat=count):
                    self.assertIs(is_round(net, list(ring)), round_by_the_words(net, ring), (net, ring))


def round_by_the_words(net, ring):
    ways = net[1]
    if not ring or len(set(ring)) < len(ring) or not set(ring) <= set(range(len(ways))):
        return False
    if any(ways[number][3] is not None for number in ring):
        return False
    following = zip(ring, ring[1:] + ring[:1])
    if any(ways[one][1] != ways[other][0] for one, other in following):
        return False
    return sum(ways[number][4] for number in ring) < 0


def look_at(case, net):
    """Holds what is told of the net against its point; the word that is told."""
    told = cheapest(net)
    case.assertIs(type(told), tuple)
    case.assertTrue(all(type(part) is list for part in told[1:]))
    case.assertTrue(all(type(number) is int for part in told[1:] for number in part))
    if told[0] == "best":
        word, going, prices = told
        case.assertIs(is_going(net, going), True)
        case.assertEqual(len(prices), len(net[0]))
        case.assertEqual(cost_of(net, going), bound(net, prices))
    elif told[0] == "none":
        word, lot = told
        case.assertIs(is_lot(net, lot), True)
    else:
        word, going, ring = told
        case.assertEqual(word, "endless")
        case.assertIs(is_going(net, going), True)
        case.assertIs(is_round(net, ring), True)
    return told[0]


class Cheapest(unittest.TestCase):
    def costs(self, net, cost):
        self.assertEqual(look_at(self, net), "best")
        self.assertEqual(cost_of(net, cheapest(net)[1]), cost)

    def test_best_ones_by_hand(self):
        self.assertEqual(look_at(self, small_net()), "best")
        self.assertEqual(cheapest(small_net())[1], [2, 2, 1])
        self.costs(small_net(), 8)
        self.costs(below_nought(), -5)
        self.assertEqual(cheapest(below_nought())[1], [-5, -1, 3])

    def test_none_by_hand(self):
        self.assertEqual(look_at(self, blocked_net()), "none")
        self.assertEqual(look_at(self, ([1, -1], [(1, 0, 0, None, 0)])), "none")
        self.assertEqual(look_at(self, ([1, -1], [(1, 0, -1, None, 0)])), "best")
        self.assertEqual(look_at(self, ([0, 0], [(0, 1, 1, 1, 0)])), "none")
        self.assertEqual(look_at(self, ([-3, 3], [(0, 1, -2, 5, 0)])), "none")
        self.assertEqual(look_at(self, ([-2, 2], [(0, 1, -2, 5, 0)])), "best")
        # The only lot is that of the knots in the midst.
        net = ([0, 0, 0, 0], [(0, 1, 3, 5, 0), (1, 2, 0, 9, 0), (2, 3, 0, 2, 0), (3, 0, 0, 9, 0)])
        self.assertEqual(look_at(self, net), "none")

    def test_endless_ones_by_hand(self):
        self.assertEqual(look_at(self, endless_net()), "endless")
        self.assertEqual(look_at(self, ([0, 0], [(0, 1, 0, None, 1), (1, 0, 0, None, -2)])), "endless")
        self.assertEqual(look_at(self, ([0, 0], [(0, 1, 0, None, 1), (1, 0, 0, None, -1)])), "best")
        self.assertEqual(look_at(self, ([0, 0], [(0, 1, 0, None, 1), (1, 0, 0, 1000, -2)])), "best")

    def test_a_round_without_a_going_is_none(self):
        ways = [(2, 3, 0, None, -1), (3, 2, 0, None, 0)]
        self.assertEqual(look_at(self, ([1, -1, 0, 0], ways)), "none")
        self.assertEqual(look_at(self, ([0, 0, 1, -1], ways)), "endless")
        self.assertEqual(look_at(self, ([1, -1], [(0, 0, 0, None, -1), (0, 1, 0, 0, 0)])), "none")
        self.assertEqual(look_at(self, ([1, -1], [(0, 0, 0, None, -1), (0, 1, 0, 1, 0)])), "endless")

    def test_a_going_with_a_round_has_lows_and_highs_to_keep(self):
        net = (
            [2, -5, 3],
            [(0, 1, -4, -1, 7), (1, 2, -9, None, -1), (2, 1, 0, None, 0), (2, 0, -6, 2, -3), (0, 2, 1, 8, 2)],
        )
        self.assertEqual(look_at(self, net), "endless")

    def test_nets_without_ways(self):
        self.assertEqual(cheapest(([0], []))[:2], ("best", []))
        self.costs(([0, 0, 0], []), 0)
        self.assertEqual(look_at(self, ([1, -1], [])), "none")
        self.assertEqual(look_at(self, ([0, 5, -5, 0], [])), "none")

    def test_ways_from_a_knot_to_itself(self):
        self.assertEqual(cheapest(([0], [(0, 0, -2, 3, -5)]))[1], [3])
        self.assertEqual(cheapest(([0], [(0, 0, -2, 3, 5)]))[1], [-2])
        self.costs(([0], [(0, 0, 4, None, 5)]), 20)
        self.costs(([0], [(0, 0, -4, None, 0)]), 0)
        self.assertEqual(cheapest(([0], [(0, 0, 4, None, -1)]))[2], [0])
        self.assertEqual(look_at(self, ([0], [(0, 0, 4, None, -1)])), "endless")
        self.costs(([3, -3], [(0, 0, -2, 3, 5), (0, 1, 0, 9, 1), (1, 1, 1, 4, -2)]), -10 + 3 - 8)

    def test_ways_alike(self):
        way = (0, 1, 0, 2, 3)
        self.costs(([5, -5], [way, way, way]), 15)
        self.assertEqual(look_at(self, ([7, -7], [way, way, way])), "none")
        free = (0, 1, 1, None, 3)
        self.costs(([5, -5], [free, free]), 15)
        self.assertEqual(look_at(self, ([0, 0], [(0, 1, 0, None, -2)] * 2 + [(1, 0, 0, None, 1)] * 2)), "endless")

    def test_dear_ways_are_taken_back(self):
        # Both would take the middle way; one of them must go round.
        net = (
            [1, 1, 0, 0, -1, -1],
            [(0, 2, 0, 1, 0), (1, 2, 0, 1, 0), (2, 3, 0, 1, 0), (3, 4, 0, 1, 0), (3, 5, 0, 1, 0),
             (0, 4, 0, 1, 5), (1, 5, 0, 1, 9), (0, 5, 0, 1, 9), (1, 4, 0, 1, 20)],
        )
        self.costs(net, 5)

    def test_costs_below_nought_fill_rings_with_bounds(self):
        self.costs(([0, 0], [(0, 1, 0, 4, -3), (1, 0, 0, None, 1)]), -8)
        self.costs(([0, 0], [(0, 1, 0, 4, -3), (1, 0, 0, 6, 3)]), 0)
        self.costs(([0, 0], [(0, 1, 0, 4, -3), (1, 0, 0, 6, 4)]), 0)
        self.costs(([0, 0], [(0, 1, -1, 4, -3), (1, 0, -2, 6, 4)]), -1)

    def test_small_nets_against_all_goings(self):
        words = {"best": 0, "none": 0}
        for seed in range(400):
            net = drawn_net(seed, 1 + seed % 4, seed % 6, 2, 4, 0.0, (seed // 4) % 5)
            goings = all_goings(net)
            word = look_at(self, net)
            words[word] += 1
            self.assertEqual(word, "best" if goings else "none")
            if goings:
                least = min(cost_of(net, going) for going in goings)
                self.assertEqual(cost_of(net, cheapest(net)[1]), least)
        self.assertGreater(min(words.values()), 50)

    def test_drawn_nets_of_each_kind(self):
        words = {"best": 0, "none": 0, "endless": 0}
        for seed in range(1500):
            free = [0.0, 0.1, 0.3, 0.6, 1.0][seed % 5]
            net = drawn_net(seed, 1 + seed % 7, seed % 13, 6, 5, free, [0, 0, 1, 7, -20][seed // 5 % 5])
            words[look_at(self, net)] += 1
        self.assertGreater(min(words.values()), 100)

    def test_the_greatest_nets(self):
        words = {"best": 0, "none": 0, "endless": 0}
        for seed in range(24):
            free = [0.0, 0.05, 0.2, 0.5][seed % 4]
            off = [0, 0, 50000][seed % 3]
            words[look_at(self, drawn_net(seed, 120, 400, 1000, 1000, free, off))] += 1
        self.assertGreater(min(words.values()), 0)

    def test_the_greatest_needs(self):
        ring = [(knot, (knot + 1) % 120, -1000, None, 1000 if knot % 2 else -999) for knot in range(120)]
        needs = [100000 if knot < 60 else -100000 for knot in range(120)]
        self.assertEqual(look_at(self, (needs, ring)), "best")
        back = [((knot + 1) % 120, knot, -1000, None, -1) for knot in range(120)]
        self.assertEqual(look_at(self, (needs, ring + back)), "endless")
        bounded = [(a, b, low, 1000, cost) for a, b, low, high, cost in ring]
        self.assertEqual(look_at(self, (needs, bounded)), "none")
        across = [(knot, 60 + knot, 0, 1000, 1000) for knot in range(60)] * 5
        self.assertEqual(look_at(self, (needs, bounded[:100] + across)), "none")
        small = [4000 if knot < 60 else -4000 for knot in range(120)]
        self.assertEqual(look_at(self, (small, bounded[:100] + across)), "best")

    def test_all_numbers_at_their_bounds(self):
        net = ([0, 0], [(0, 1, -1000, 1000, -1000), (1, 0, -1000, 1000, -1000)])
        self.costs(net, -2000000)
        net = ([0, 0], [(0, 1, -1000, None, 1000), (1, 0, -1000, None, 1000)])
        self.costs(net, -2000000)

    def test_long_rings_of_ways_without_a_bound(self):
        for many in [2, 3, 50, 120]:
            ways = [(knot, (knot + 1) % many, 0, None, 1) for knot in range(many)]
            ways[many // 2] = (many // 2, (many // 2 + 1) % many, 0, None, -many)
            self.assertEqual(look_at(self, ([0] * many, ways)), "endless")
            self.assertEqual(look_at(self, ([0] * many, ways[::-1])), "endless")
            ways[many // 2] = (many // 2, (many // 2 + 1) % many, 0, None, 1 - many)
            self.costs(([0] * many, ways), 0)
            self.costs(([0] * many, ways[::-1]), 0)

    def test_a_round_that_is_led_to(self):
        # A tail of cheap ways leads to a ring; the ring alone is the round.
        ways = [(knot, knot + 1, 0, None, -5) for knot in range(9)]
        ways += [(9, 7, 0, None, 9)]
        self.assertEqual(look_at(self, ([0] * 10, ways)), "endless")
        self.assertEqual(sorted(cheapest(([0] * 10, ways))[2]), [7, 8, 9])
        ways[-1] = (9, 7, 0, None, 10)
        self.assertEqual(look_at(self, ([0] * 10, ways)), "best")


class AskersOwn(unittest.TestCase):
    def test_cheapest_tells_new_lists(self):
        for make in RIGHT:
            samples.held(self, cheapest, lambda: (make(),))
        for seed in range(30):
            samples.held(self, cheapest, lambda: (drawn_net(seed, 5, 9, 4, 4, 0.3, seed % 3),))

    def test_the_judges_change_nothing(self):
        for make in RIGHT:
            net = make()
            for handed in [[0], [0, 1, 2], [2, 2, 1], [0, 2, 3], [3, 1, 0, 2]]:
                copy = list(handed)
                for ask in [is_going, is_lot, is_round]:
                    self.assertEqual(ask(net, handed), ask(net, handed))
                    self.assertEqual((net, handed), (make(), copy))
            prices = list(range(len(net[0])))
            self.assertEqual(bound(net, prices), bound(net, prices))
            going = list(range(len(net[1])))
            self.assertEqual(cost_of(net, going), cost_of(net, going))
            self.assertEqual((net, prices, going), (make(), list(range(len(net[0]))), list(range(len(net[1])))))


if __name__ == "__main__":
    unittest.main()
