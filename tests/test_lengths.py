import random
import unittest

from fewbends.lengths import length, net_for, shortest
from fewbends.lines import least_numbers, lines_of, rises, steps_of
from fewbends.nets import bound, cost_of, is_going
from fewbends.partings import parted
from tests import samples
from tests.samples import framed_hook, framed_line, framed_square

GREAT = 10 ** 40 - 1


def free_way(line, other):
    return (line, other, 0, None, -1)


class ByHand(unittest.TestCase):
    def test_lengths(self):
        # Of the line's steps only the one from line 0 to line 1 counts; no upright one does.
        self.assertEqual(length(framed_line(), 0, [1, 2, 3, 0]), 1)
        self.assertEqual(length(framed_line(), 0, [1, 8, 30, -7]), 7)
        self.assertEqual(length(framed_line(), 0, [-GREAT, GREAT, GREAT + 1, -GREAT - 1]), 2 * GREAT)
        self.assertEqual(length(framed_line(), 1, [1, 0, 2]), 0)
        self.assertEqual(length(framed_line(), 1, [100, 0, 200]), 0)
        # The square has two ties by each way, to the east and to the west, to the north and to the south.
        self.assertEqual(length(framed_square(), 0, [1, 2, 3, 0]), 2)
        self.assertEqual(length(framed_square(), 0, [-2, 3, 40, -100]), 10)
        self.assertEqual(length(framed_square(), 1, [1, 2, 0, 3]), 2)
        self.assertEqual(length(framed_square(), 1, [1, 6, 0, 30]), 10)
        # The hook: its tie 0 from line 0 over 2 to 1, its tie 2 from 2 to 1; its tie 1 upright.
        self.assertEqual(length(framed_hook(), 0, [1, 3, 2, 0, 4]), 3)
        self.assertEqual(length(framed_hook(), 0, [1, 13, 3, 0, 40]), 22)
        self.assertEqual(length(framed_hook(), 1, [1, 2, 3, 0]), 1)
        self.assertEqual(length(framed_hook(), 1, [1, 12, 30, 0]), 11)

    def test_nets(self):
        ways = [free_way(0, 1), free_way(1, 2), free_way(3, 0), free_way(3, 2), free_way(3, 2)]
        self.assertEqual(net_for(framed_line(), 0), ([1, -1, 0, 0], ways))
        ways = [free_way(1, 0), free_way(0, 2), free_way(0, 2), free_way(1, 0)]
        self.assertEqual(net_for(framed_line(), 1), ([0, 0, 0], ways))
        pairs = [(0, 1), (0, 1), (1, 2), (3, 0), (3, 0), (0, 2), (1, 2), (3, 1)]
        self.assertEqual(net_for(framed_square(), 0), ([2, -2, 0, 0], [free_way(*pair) for pair in pairs]))
        pairs = [(0, 1), (0, 1), (2, 0), (1, 3), (2, 0), (0, 3), (1, 3), (2, 1)]
        self.assertEqual(net_for(framed_square(), 1), ([2, -2, 0, 0], [free_way(*pair) for pair in pairs]))
        pairs = [(2, 1), (0, 2), (2, 1), (3, 0), (1, 4), (3, 1), (1, 4), (1, 4), (2, 1), (3, 2)]
        self.assertEqual(net_for(framed_hook(), 0), ([1, -2, 1, 0, 0], [free_way(*pair) for pair in pairs]))
        pairs = [(0, 1), (0, 1), (1, 2), (1, 2), (3, 0), (3, 0), (0, 2), (0, 2), (3, 0)]
        self.assertEqual(net_for(framed_hook(), 1), ([1, -1, 0, 0], [free_way(*pair) for pair in pairs]))

    def test_the_shortest(self):
        for make, wanted in [(framed_line, (1, 0)), (framed_square, (2, 2)), (framed_hook, (3, 1))]:
            for way in [0, 1]:
                numbers, going = shortest(make(), way)
                self.assertEqual(length(make(), way, numbers), wanted[way])
                self.assertEqual(cost_of(net_for(make(), way), going), -wanted[way])

    def test_shorter_than_the_least_numbers_are(self):
        # Four ties to the east, up, and one back to the west, which needn't be longer than one step.
        laid = (7, [(0, 1), (1, 2), (2, 3), (3, 4), (4, 5), (6, 5)], [0, 0, 0, 0, 1, 0])
        for more in range(4):
            parting = parted(samples.turned(laid, more))
            numbers, going = shortest(parting, more % 2)
            self.assertEqual(length(parting, more % 2, numbers), 5)
        parting = parted(laid)
        self.assertGreater(length(parting, 0, least_numbers(parting, 0)), 5)

    def test_longer_than_a_step_for_each_tie(self):
        # An oblong: one tie to the west above two to the east, one to the north beside two to the south.
        laid = (6, [(0, 1), (1, 2), (2, 3), (3, 4), (4, 5), (5, 0)], [0, 0, 1, 2, 3, 3])
        parting = parted(laid)
        self.assertEqual([length(parting, way, shortest(parting, way)[0]) for way in [0, 1]], [4, 4])


class Told(unittest.TestCase):
    def test_partings_of_all_sorts(self):
        for laid, parting in samples.some_partings():
            for way in [0, 1]:
                self.look_at(parting, way)

    def test_the_greatest_ones(self):
        for seed, (wide, high, share) in enumerate([
            (15, 15, 0), (15, 15, 0.5), (15, 15, 1), (60, 60, 0), (200, 1, 0), (1, 200, 0), (100, 2, 0.3),
        ]):
            laid = samples.drawn_laid(seed, wide, high, 200, share)
            parting = parted(laid)
            for way in [0, 1]:
                self.look_at(parting, way)

    def look_at(self, parting, way):
        """Holds what is told against the words of the point."""
        steps = steps_of(parting, way)
        counted = [(line, other) for line, other, piece in steps if piece >= 0]
        many = len(lines_of(parting, way))
        needs = [0] * many
        for line, other in counted:
            needs[line] += 1
            needs[other] -= 1
        net = net_for(parting, way)
        self.assertEqual(net, (needs, [free_way(line, other) for line, other, _ in steps]))
        told = shortest(parting, way)
        self.assertIs(type(told), tuple)
        numbers, going = told
        self.assertEqual(len(numbers), many)
        self.assertIs(rises(parting, way, numbers), True)
        self.assertEqual(min(numbers), 0)
        self.assertIs(is_going(net, going), True)
        reach = sum(numbers[other] - numbers[line] for line, other in counted)
        self.assertEqual(length(parting, way, numbers), reach)
        self.assertEqual(-cost_of(net, going), reach)
        self.assertEqual(bound(net, numbers), -reach)
        self.assertGreaterEqual(reach, len(counted))
        least = least_numbers(parting, way)
        self.assertLessEqual(reach, length(parting, way, least))
        # No numbers that rise are shorter, such as these.
        draw = random.Random(many)
        for _ in range(3):
            other = [5 * number + draw.randint(0, 4) for number in least]
            self.assertIs(rises(parting, way, other), True)
            self.assertGreaterEqual(length(parting, way, other), reach)

    def test_all_numbers_of_small_partings(self):
        for make in [framed_line, framed_square, framed_hook]:
            for way in [0, 1]:
                most = len(lines_of(make(), way))
                lengths = [
                    length(make(), way, numbers)
                    for numbers in all_numbers(most) if rises(make(), way, numbers)
                ]
                self.assertEqual(length(make(), way, shortest(make(), way)[0]), min(lengths))


def all_numbers(most):
    rows = [[]]
    for _ in range(most):
        rows = [row + [number] for row in rows for number in range(most)]
    return rows


class AskersOwn(unittest.TestCase):
    def test_new_lists(self):
        for make in [framed_line, framed_square, framed_hook]:
            for way in [0, 1]:
                samples.held(self, net_for, lambda: (make(), way))
                samples.held(self, shortest, lambda: (make(), way))

    def test_length_changes_nothing(self):
        for make in [framed_line, framed_square, framed_hook]:
            parting = make()
            numbers = least_numbers(parting, 0)
            kept = list(numbers)
            self.assertEqual(length(parting, 0, numbers), length(parting, 0, numbers))
            self.assertEqual((parting, numbers), (make(), kept))


if __name__ == "__main__":
    unittest.main()
