"""Point 4: the whole way from a map to its drawings and back, over the whole program."""

import random
import unittest

from fewbends.drawings import is_drawing, narrowest, shape_of, shortest_drawn
from fewbends.fewest import cost, fewest, keeps, shows_fewest, shows_none
from fewbends.laid import corners_of, laid_out
from fewbends.lengths import length, net_for, shortest
from fewbends.lines import breadth, chain_of, is_chain, least_numbers, rises
from fewbends.maps import lands
from fewbends.nets import cost_of, is_going
from fewbends.outers import best_outer, shows_best
from fewbends.partings import is_parting, parted
from fewbends.pictures import picture, read_picture
from fewbends.shapes import is_shape, shortened, turns
from fewbends.texts import read_drawing, read_map, read_shape, show_drawing, show_map, show_shape
from tests import samples


def some_wishes(seed, web):
    """From none at all to such as can't be kept."""
    yield samples.free_wishes(web)
    yield samples.drawn_wishes(seed, web, 1000, None, 0)
    yield samples.drawn_wishes(seed, web, 5, 40, 0)
    yield samples.drawn_wishes(seed, web, 5, 2, 1)
    yield samples.drawn_wishes(seed, web, 5, None, 3)


class TheWholeWay(unittest.TestCase):
    def test_drawn_maps(self):
        seen = {"shape": 0, "none": 0}
        for seed in range(30):
            many = 1 + seed % 10
            count = min(many + seed % 7, 2 * many - 1 if many > 1 else 2)
            web = samples.drawn_map(seed, many, count)
            self.assertEqual(read_map(show_map(web)), web)
            for number, wishes in enumerate(some_wishes(seed, web)):
                for outer in range(len(lands(web)))[:: 1 + number]:
                    told = fewest(web, outer, wishes)
                    seen[told[0]] += 1
                    if told[0] == "none":
                        self.assertIs(shows_none(web, outer, wishes, told[1]), True)
                        self.assertGreater(number, 1)
                    else:
                        self.assertIs(shows_fewest(web, outer, wishes, told[1], told[2]), True)
                        self.go_on(web, outer, wishes, told[1])
                land, shape, papers = best_outer(web, wishes)
                self.assertIs(shows_best(web, wishes, land, shape, papers), True)
                if land is not None:
                    self.go_on(web, land, wishes, shape)
        self.assertGreater(min(seen.values()), 20)

    def test_the_greatest_maps(self):
        for seed in range(3):
            web = samples.drawn_map(seed, 10, 16)
            for wishes in some_wishes(seed, web):
                land, shape, papers = best_outer(web, wishes)
                self.assertIs(shows_best(web, wishes, land, shape, papers), True)
                if land is not None:
                    self.go_on(web, land, wishes, shape)

    def go_on(self, web, outer, wishes, shape):
        """From a shape that is told to its drawings, their texts and pictures, and back."""
        self.assertIs(is_shape(web, outer, shape) and keeps(wishes, shape), True)
        self.assertEqual(shortened(shape), shape)
        self.assertEqual(read_shape(show_shape(shape)), shape)
        laid, owners = laid_out(web, outer, shape)
        parting = parted(laid)
        self.assertIs(is_parting(laid, parting), True)
        self.papers(parting)
        for ask in [narrowest, shortest_drawn]:
            drawing = ask(web, outer, shape)
            self.assertEqual(ask(web, outer, shape), drawing)
            self.assertIs(is_drawing(web, outer, drawing), True)
            self.assertEqual(shape_of(web, drawing), shape)
            self.assertEqual(read_drawing(show_drawing(drawing)), drawing)
            self.pictured(web, laid, drawing)

    def papers(self, parting):
        for way in [0, 1]:
            least = least_numbers(parting, way)
            line = least.index(breadth(parting, way))
            chain = chain_of(parting, way, line)
            self.assertIs(is_chain(parting, way, line, chain), True)
            self.assertEqual(len(chain), breadth(parting, way))
            numbers, going = shortest(parting, way)
            self.assertIs(rises(parting, way, numbers), True)
            self.assertIs(is_going(net_for(parting, way), going), True)
            self.assertEqual(-cost_of(net_for(parting, way), going), length(parting, way, numbers))

    def pictured(self, web, laid, drawing):
        points = [point for line in drawing[1] for point in line]
        for way in [0, 1]:
            if max(point[way] for point in points) - min(point[way] for point in points) > 60:
                return
        seen = read_picture(picture(drawing))
        self.assertEqual((seen[0], len(seen[1])), (laid[0], len(laid[1])))
        # The corners at the map's places, and all of them together, are those of what is laid out.
        for first in [laid, seen]:
            self.assertEqual(sum(corners_of(first)), 4 * first[0])
        self.assertEqual(at_places(seen, web[0]), at_places(laid, web[0]))


def at_places(laid, many):
    """For each of the first places the headings that are taken there, with the corner behind each."""
    corners = corners_of(laid)
    told = [{} for _ in range(laid[0])]
    for number, (a, b) in enumerate(laid[1]):
        told[a][laid[2][number]] = corners[2 * number + 1]
        told[b][(laid[2][number] + 2) % 4] = corners[2 * number]
    return told[:many]


class NoDrawingCostsLess(unittest.TestCase):
    def test_right_drawings_made_without_the_program(self):
        looked = 0
        for seed, (web, outer, drawing) in enumerate(samples.some_at_will(200)):
            self.assertIs(is_drawing(web, outer, drawing), True)
            shape = shape_of(web, drawing)
            self.assertIs(is_shape(web, outer, shape), True)
            self.assertEqual(turns(shape), [len(line) - 2 for line in drawing[1]])
            for wishes in list(some_wishes(seed, web)) + [kept_wishes(seed, web, shape)]:
                if keeps(wishes, shape):
                    looked += 1
                    told = fewest(web, outer, wishes)
                    self.assertEqual(told[0], "shape")
                    self.assertLessEqual(cost(wishes, told[1]), cost(wishes, shape))
                    land, best, papers = best_outer(web, wishes)
                    self.assertLessEqual(cost(wishes, best), cost(wishes, shape))
        self.assertGreater(looked, 500)

    def test_right_drawings_by_hand(self):
        for make, outer, drawing, shape in samples.DRAWINGS:
            web = make()
            for seed in range(10):
                wishes = kept_wishes(seed, web, shape)
                told = fewest(web, outer, wishes)
                self.assertEqual(told[0], "shape")
                self.assertLessEqual(cost(wishes, told[1]), cost(wishes, shape_of(web, drawing)))

    def test_each_drawn_one_is_let_by_with_its_own_land_alone(self):
        for web, outer, drawing in samples.some_at_will(60):
            shape = fewest(web, outer, samples.free_wishes(web))[1]
            told = narrowest(web, outer, shape)
            self.assertEqual([is_drawing(web, land, told) for land in range(len(lands(web)))].index(True), outer)


def kept_wishes(seed, web, shape):
    """Wishes that the shape is known to keep."""
    draw = random.Random(seed)
    weights = [draw.randint(0, 1000) for _ in web[1]]
    bars = [draw.choice([None, many, many + 1]) for many in turns(shape)]
    return (weights, bars, [draw.choice([None, None, corner]) for corner in shape[0]])


if __name__ == "__main__":
    unittest.main()
