import unittest

from fewbends.errors import NoMap, NotFlat
from fewbends.fewest import cost, fewest, keeps, net_of
from fewbends.maps import is_flat, lands
from fewbends.nets import bound, is_lot
from fewbends.outers import best_outer, shows_best
from fewbends.shapes import is_shape, shortened
from tests import samples
from tests.samples import drawn_map, drawn_wishes, free_wishes

GREAT = 10 ** 40 - 1


def look_at(case, web, wishes):
    """Holds what is told against its point; the land and the cost, or None and None."""
    told = best_outer(web, wishes)
    case.assertIs(type(told), tuple)
    land, shape, papers = told
    case.assertIs(type(papers), list)
    case.assertEqual(len(papers), len(lands(web)))
    costs = [cost_by_its_paper(case, web, outer, wishes, paper) for outer, paper in enumerate(papers)]
    case.assertIs(shows_best(web, wishes, land, shape, papers), True)
    least = min([one for one in costs if one is not None], default=None)
    if least is None:
        case.assertEqual((land, shape), (None, None))
        return (None, None)
    case.assertEqual(land, costs.index(least))
    case.assertIs(is_shape(web, land, shape), True)
    case.assertEqual(shortened(shape), shape)
    case.assertIs(keeps(wishes, shape), True)
    case.assertEqual(cost(wishes, shape), least)
    return (land, least)


def cost_by_its_paper(case, web, outer, wishes, paper):
    case.assertIs(type(paper), tuple)
    net = net_of(web, outer, wishes)
    told = fewest(web, outer, wishes)
    if told[0] == "none":
        case.assertEqual(paper[0], "none")
        case.assertIs(is_lot(net, paper[1]), True)
        return None
    case.assertEqual(paper[0], "prices")
    case.assertEqual(len(paper[1]), len(net[0]))
    case.assertEqual(bound(net, paper[1]), cost(wishes, told[1]))
    return cost(wishes, told[1])


class Refusals(unittest.TestCase):
    def test_no_map(self):
        many, ties, orders = samples.crossing_loops()
        for wrong in [
            (0, [], []), (1, [], [[]]), (2, [(0, 1)], [[0]]), (2, [(0, 1)], [[1], [0]]), (2, [(0, 2)], [[0], [1]]),
            (-1, [(0, 1)], [[0], [1]]), (1, [(0, -1)], [[0, 1]]), (many + 1, ties, orders + [[]]),
        ]:
            with self.assertRaises(NoMap):
                best_outer(wrong, free_wishes(wrong))

    def test_not_flat(self):
        for make in samples.NOT_FLAT:
            with self.assertRaises(NotFlat):
                best_outer(make(), free_wishes(make()))


class BestOuter(unittest.TestCase):
    def test_by_hand(self):
        wanted = {
            samples.single_tie: (0, 0), samples.self_tie: (0, 3), samples.ring: (0, 1), samples.tree: (0, 0),
            samples.two_ties: (0, 2), samples.three_ties: (0, 4), samples.star: (0, 0),
            samples.side_loops: (1, 6), samples.nested_loops: (0, 6), samples.flag: (1, 5),
        }
        self.assertEqual(sorted(wanted, key=str), sorted(samples.FLAT, key=str))
        for make, best in wanted.items():
            self.assertEqual(look_at(self, make(), free_wishes(make())), best)

    def test_one_land_alone_has_a_shape(self):
        # The loops turn three times each where both are seen from outside, else one five times.
        wishes = ([1, 1], [3, 3], [None] * 4)
        self.assertEqual(look_at(self, samples.side_loops(), wishes), (1, 6))
        words = [paper[0] for paper in best_outer(samples.side_loops(), wishes)[2]]
        self.assertEqual(words, ["none", "prices", "none"])
        wishes = ([1, 1], [3, None], [None] * 4)
        words = [paper[0] for paper in best_outer(samples.side_loops(), wishes)[2]]
        self.assertEqual(words, ["none", "prices", "prices"])
        wishes = ([1, 1], [None, 3], [None] * 4)
        self.assertEqual(look_at(self, samples.nested_loops(), wishes), (0, 6))

    def test_a_later_land_is_best(self):
        # The tie 0 may not turn, so it lies between the two others.
        self.assertEqual(look_at(self, samples.three_ties(), ([1] * 3, [0, 2, 2], [None] * 6)), (2, 4))
        self.assertEqual(look_at(self, samples.three_ties(), ([1] * 3, [2, 0, 2], [None] * 6)), (1, 4))
        self.assertEqual(look_at(self, samples.three_ties(), ([1] * 3, [2, 2, 0], [None] * 6)), (0, 4))
        # Set corners for a ring whose second land is the outer one, and for one whose first is.
        sets = [1, 3, 1, 3, 1, 3]
        self.assertEqual(look_at(self, samples.ring(), ([1] * 3, [None] * 3, sets)), (1, 1))
        sets = [3, 1, 3, 1, 3, 1]
        self.assertEqual(look_at(self, samples.ring(), ([1] * 3, [None] * 3, sets)), (0, 1))

    def test_the_first_of_lands_that_cost_as_much(self):
        for make in [samples.self_tie, samples.ring, samples.two_ties, samples.three_ties]:
            self.assertEqual(best_outer(make(), free_wishes(make()))[0], 0)
        for make in samples.FLAT:
            web = make()
            wishes = ([0] * len(web[1]), [None] * len(web[1]), [None] * (2 * len(web[1])))
            self.assertEqual(look_at(self, web, wishes), (0, 0))
        # Where turns of one loop are free the lands cost 5, 3, 3; with the other one 3, 3, 5.
        self.assertEqual(look_at(self, samples.side_loops(), ([1, 0], [None] * 2, [None] * 4)), (1, 3))
        self.assertEqual(look_at(self, samples.side_loops(), ([0, 1], [None] * 2, [None] * 4)), (0, 3))

    def test_no_land_has_a_shape(self):
        for make, bars in [
            (samples.self_tie, [2]), (samples.ring, [0] * 3), (samples.side_loops, [2, 2]), (samples.two_ties, [1, 0]),
        ]:
            wishes = ([1] * len(bars), bars, [None] * (2 * len(bars)))
            self.assertEqual(look_at(self, make(), wishes), (None, None))
            told = best_outer(make(), wishes)
            self.assertEqual(told[:2], (None, None))
            self.assertTrue(all(paper[0] == "none" for paper in told[2]))

    def test_small_maps(self):
        for number, web in enumerate(samples.small_maps()):
            if is_flat(web):
                look_at(self, web, free_wishes(web))
                look_at(self, web, drawn_wishes(number, web, 3, 3, 1))

    def test_drawn_maps(self):
        without = 0
        for seed in range(60):
            web = drawn_map(seed, 2 + seed % 9, 2 + seed % 9 + seed % 3)
            wishes = drawn_wishes(seed, web, [1, 9, 1000][seed % 3], [None, 2, 6][seed // 3 % 3], seed % 2)
            without += look_at(self, web, wishes)[0] is None
        self.assertGreater(without, 5)

    def test_the_greatest_maps(self):
        for seed in range(4):
            web = drawn_map(seed, 10, 16)
            look_at(self, web, free_wishes(web))
            look_at(self, web, drawn_wishes(seed, web, 1000, 40, 0))


class ShowsBest(unittest.TestCase):
    # Two lands have shapes, at 8 and 6; the first one has none.
    WISHES = ([1, 1], [3, None], [None] * 4)

    def setUp(self):
        self.land, self.shape, self.papers = best_outer(samples.side_loops(), self.WISHES)

    def told(self, land, shape, papers, wishes=WISHES):
        return shows_best(samples.side_loops(), wishes, land, shape, papers)

    def with_paper(self, place, paper):
        papers = list(self.papers)
        papers[place] = paper
        return papers

    def test_what_is_told(self):
        self.assertEqual([paper[0] for paper in self.papers], ["none", "prices", "prices"])
        self.assertIs(self.told(self.land, self.shape, self.papers), True)

    def test_by_hand(self):
        web = samples.self_tie()
        wishes = ([2], [None], [None, None])
        papers = [("prices", [0, 0, 2]), ("prices", [0, 2, 0])]
        self.assertIs(shows_best(web, wishes, 0, ([3, 1], [0, 3]), papers), True)
        self.assertIs(shows_best(web, wishes, 1, ([1, 3], [3, 0]), papers), True)
        self.assertIs(shows_best(web, wishes, 0, ([1, 3], [3, 0]), papers), False)
        self.assertIs(shows_best(web, wishes, 1, ([2, 2], [4, 0]), papers), False)
        self.assertIs(shows_best(web, wishes, 0, ([3, 1], [0, 3]), papers[::-1]), False)
        self.assertIs(shows_best(web, wishes, None, None, papers), False)
        papers = [("prices", [5, 5, 7]), ("prices", [0, 1, 0])]
        self.assertIs(shows_best(web, wishes, 0, ([3, 1], [0, 3]), papers), False)

    def test_another_land_may_bound_more(self):
        # Land 2 costs 8 at least, and its prices bound 8: no less than 6.
        net = net_of(samples.side_loops(), 2, self.WISHES)
        self.assertEqual(bound(net, self.papers[2][1]), 8)
        # Prices that bound anything from 6 to 8 show as much; less doesn't.
        seen = {True: 0, False: 0}
        for change in range(-9, 10):
            for knot in range(4):
                prices = list(self.papers[2][1])
                prices[knot] += change
                bounded = bound(net, prices)
                right = bounded is not None and bounded >= 6
                self.assertIs(self.told(1, self.shape, self.with_paper(2, ("prices", prices))), right)
                seen[right] += 1
        self.assertGreater(min(seen.values()), 4)

    def test_bounds_of_just_the_cost_and_of_one_less(self):
        # A tie of weight 1 alone, turned thrice: prices of the difference 1 bound 3.
        web = samples.self_tie()
        wishes = ([2], [3], [None, None])
        for price, bounded in [(2, 6), (1, 3), (0, 0), (3, 6)]:
            self.assertEqual(bound(net_of(web, 1, wishes), [0, price, 0]), bounded)
            papers = [("prices", [0, 0, 2]), ("prices", [0, price, 0])]
            self.assertIs(shows_best(web, wishes, 0, ([3, 1], [0, 3]), papers), bounded >= 6)
        wishes = ([0], [3], [None, None])
        papers = [("prices", [0, 0, 0]), ("prices", [0, 0, 0])]
        self.assertIs(shows_best(web, wishes, 0, ([3, 1], [0, 3]), papers), True)
        wishes = ([1], [None], [None, None])
        self.assertIs(shows_best(web, wishes, 0, ([3, 1], [0, 3]), papers), False)

    def test_papers_more_or_fewer(self):
        for wrong in [
            [], self.papers[:-1], self.papers[1:], self.papers + [self.papers[-1]], self.papers + [("none", [0])],
            self.papers + self.papers,
        ]:
            self.assertIs(self.told(self.land, self.shape, wrong), False)

    def test_another_word(self):
        for place, paper in enumerate(self.papers):
            other = "none" if paper[0] == "prices" else "prices"
            for word in [other, "", "price", "Prices", "NONE", "lot", "shape", "best", "none ", " prices"]:
                wrong = self.with_paper(place, (word, paper[1]))
                self.assertIs(self.told(self.land, self.shape, wrong), False)

    def test_prices_too_few_or_too_many(self):
        for place in [1, 2]:
            prices = self.papers[place][1]
            for wrong in [[], prices[:-1], prices[1:], prices + [0], prices + prices, [0] * 500]:
                papers = self.with_paper(place, ("prices", wrong))
                self.assertIs(self.told(self.land, self.shape, papers), False)

    def test_prices_that_bound_less_or_nothing(self):
        for place in [1, 2]:
            self.assertIs(self.told(self.land, self.shape, self.with_paper(place, ("prices", [0] * 4))), False)
            wrong = ("prices", [0, 0, GREAT, -GREAT])
            self.assertIs(self.told(self.land, self.shape, self.with_paper(place, wrong)), False)
        self.assertIsNone(bound(net_of(samples.side_loops(), 2, self.WISHES), [0, 0, 9, 0]))
        self.assertIs(self.told(self.land, self.shape, self.with_paper(2, ("prices", [0, 0, 9, 0]))), False)

    def test_a_lot_that_is_none(self):
        for wrong in [[], [0], [0, 0], [4], [-1], [0, 1, 2, 3], self.papers[0][1] * 2, [10 ** 30]]:
            self.assertIs(self.told(self.land, self.shape, self.with_paper(0, ("none", wrong))), False)
        for place in [1, 2]:
            papers = self.with_paper(place, self.papers[0])
            self.assertIs(self.told(self.land, self.shape, papers), False)

    def test_a_shape_that_costs_more(self):
        dearer = ([1, 1, 1, 1], [3, 0, 4, 1])
        self.assertIs(is_shape(samples.side_loops(), 1, dearer), True)
        self.assertIs(self.told(1, dearer, self.papers), False)

    def test_the_best_shape_of_a_land_that_costs_more(self):
        other = fewest(samples.side_loops(), 2, self.WISHES)[1]
        self.assertEqual(cost(self.WISHES, other), 8)
        self.assertIs(self.told(2, other, self.papers), False)

    def test_a_shape_that_doesnt_keep_the_wishes(self):
        # All turns are free, so the bar alone is broken.
        wishes = ([0, 0], [3, None], [None] * 4)
        land, shape, papers = best_outer(samples.side_loops(), wishes)
        self.assertIs(self.told(land, shape, papers, wishes), True)
        self.assertIs(self.told(1, ([1, 1, 1, 1], [3, 0, 3, 0]), papers, wishes), True)
        self.assertIs(self.told(1, ([1, 1, 1, 1], [4, 1, 3, 0]), papers, wishes), False)
        wishes = ([0, 0], [None, None], [1, None, None, None])
        land, shape, papers = best_outer(samples.self_tie(), ([0], [None], [1, None]))
        self.assertIs(shows_best(samples.self_tie(), ([0], [None], [1, None]), 1, ([1, 3], [3, 0]), papers), True)
        self.assertIs(shows_best(samples.self_tie(), ([0], [None], [1, None]), 1, ([2, 2], [4, 0]), papers), False)

    def test_another_land(self):
        for land in [0, 2]:
            self.assertIs(self.told(land, self.shape, self.papers), False)

    def test_what_is_no_shape(self):
        corners, lefts = self.shape
        for wrong in [
            ([], []), (corners, []), ([], lefts), (corners[:-1], lefts), (corners + [1], lefts), (corners, lefts + [0]),
            (corners, [0, 0, 0, 0]), ([0, 2, 1, 1], lefts), (lefts, corners),
        ]:
            self.assertIs(self.told(self.land, wrong, self.papers), False)

    def test_none_and_none(self):
        self.assertIs(self.told(None, None, self.papers), False)
        wishes = ([1, 1], [2, 2], [None] * 4)
        told = best_outer(samples.side_loops(), wishes)
        self.assertEqual(told[:2], (None, None))
        self.assertIs(self.told(None, None, told[2], wishes), True)
        for place, paper in enumerate(told[2]):
            for wrong in [("none", []), ("none", [0]), ("prices", [0] * 4), ("prices", paper[1]), ("lot", paper[1])]:
                papers = list(told[2])
                papers[place] = wrong
                self.assertIs(self.told(None, None, papers, wishes), False)
        for wrong in [[], told[2][:-1], told[2] + told[2][:1]]:
            self.assertIs(self.told(None, None, wrong, wishes), False)

    def test_lots_alone_with_a_shape_that_keeps_no_wishes(self):
        wishes = ([1, 1], [2, 2], [None] * 4)
        papers = best_outer(samples.side_loops(), wishes)[2]
        self.assertIs(self.told(1, ([1, 1, 1, 1], [3, 0, 3, 0]), papers, wishes), False)


class AskersOwn(unittest.TestCase):
    def test_best_outer_tells_new_lists(self):
        for make in samples.FLAT:
            for most_bar in [None, 0, 3]:
                samples.held(self, best_outer, lambda: (make(), drawn_wishes(3, make(), 4, most_bar, 0)))
        samples.held(self, best_outer, lambda: (samples.side_loops(), ([1, 1], [2, 2], [None] * 4)))

    def test_shows_best_changes_nothing(self):
        for make in samples.FLAT:
            web, wishes = make(), free_wishes(make())
            told = best_outer(web, wishes)
            for _ in range(2):
                self.assertIs(shows_best(web, wishes, told[0], told[1], told[2]), True)
            self.assertEqual((web, wishes, told), (make(), free_wishes(make()), best_outer(web, wishes)))


if __name__ == "__main__":
    unittest.main()
