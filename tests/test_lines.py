import random
import unittest

from fewbends.lines import breadth, chain_of, is_chain, least_numbers, lines_of, rises, steps_of
from fewbends.partings import parted
from tests import samples
from tests.samples import framed_hook, framed_line, framed_square

GREAT = 10 ** 40 - 1


def lines_by_the_words(laid, way):
    """Places grown together by the ties across the way."""
    many, ties, heads = laid
    across = [(1, 3), (0, 2)][way]
    groups = [{place} for place in range(many)]
    for (a, b), head in zip(ties, heads):
        if head in across:
            joined = set().union(*[group for group in groups if a in group or b in group])
            groups = [group for group in groups if not group & joined] + [joined]
    return sorted(sorted(group) for group in groups)


def steps_by_the_words(parting, way):
    (many, ties, heads), pieces = parting
    lines = lines_by_the_words(parting[0], way)
    number = {place: k for k, line in enumerate(lines) for place in line}
    onward, back = [(0, 2), (1, 3)][way]
    steps = []
    for (a, b), head, piece in zip(ties, heads, pieces):
        if head == onward:
            steps.append((number[a], number[b], piece))
        if head == back:
            steps.append((number[b], number[a], piece))
    return steps


def least_by_the_words(steps, many):
    numbers = [0] * many
    changed = True
    while changed:
        changed = False
        for line, other, piece in steps:
            if numbers[other] <= numbers[line]:
                numbers[other] = numbers[line] + 1
                changed = True
    return numbers


class ByHand(unittest.TestCase):
    def test_the_line(self):
        parting = framed_line()
        self.assertEqual(lines_of(parting, 0), [[0], [1], [2, 4, 5], [3, 6, 7]])
        self.assertEqual(lines_of(parting, 1), [[0, 1, 2, 3], [4, 7], [5, 6]])
        # The frame's tie 5 heads west, so its step begins at its second place.
        steps = [(0, 1, 0), (1, 2, -1), (3, 0, -1), (3, 2, -2), (3, 2, -2)]
        self.assertEqual(steps_of(parting, 0), steps)
        self.assertEqual(steps_of(parting, 1), [(1, 0, -2), (0, 2, -2), (0, 2, -2), (1, 0, -2)])
        self.assertEqual(least_numbers(parting, 0), [1, 2, 3, 0])
        self.assertEqual(least_numbers(parting, 1), [1, 0, 2])
        self.assertEqual(breadth(parting, 0), 3)
        self.assertEqual(breadth(parting, 1), 2)
        self.assertEqual([chain_of(parting, 0, line) for line in range(4)], [[2], [2, 0], [2, 0, 1], []])
        self.assertEqual(chain_of(parting, 1, 1), [])
        self.assertIn(chain_of(parting, 1, 0), [[0], [3]])

    def test_the_square(self):
        # Its ties 0 to 3 head east, north, west and south.
        parting = framed_square()
        self.assertEqual(parting[0][2][:4], [0, 1, 2, 3])
        self.assertEqual(lines_of(parting, 0), [[0, 3, 4], [1, 2, 6], [5, 9, 10], [7, 8, 11]])
        self.assertEqual(lines_of(parting, 1), [[0, 1, 5], [2, 3, 7], [4, 8, 9], [6, 10, 11]])
        steps = [(0, 1, 0), (0, 1, 2), (1, 2, -1), (3, 0, -1), (3, 0, -2), (0, 2, -2), (1, 2, -2), (3, 1, -2)]
        self.assertEqual(steps_of(parting, 0), steps)
        steps = [(0, 1, 1), (0, 1, 3), (2, 0, -1), (1, 3, -1), (2, 0, -2), (0, 3, -2), (1, 3, -2), (2, 1, -2)]
        self.assertEqual(steps_of(parting, 1), steps)
        self.assertEqual(least_numbers(parting, 0), [1, 2, 3, 0])
        self.assertEqual(least_numbers(parting, 1), [1, 2, 0, 3])
        self.assertEqual([breadth(parting, way) for way in [0, 1]], [3, 3])

    def test_the_hook(self):
        parting = framed_hook()
        lines = [[0], [1, 2, 7, 9], [3, 4, 8], [5, 10, 13], [6, 11, 12]]
        self.assertEqual(lines_of(parting, 0), lines)
        lines = [[0, 1, 4, 5, 6], [2, 3], [7, 8, 12, 13], [9, 10, 11]]
        self.assertEqual(lines_of(parting, 1), lines)
        # The pieces of the tie 0 stand with the second one first.
        steps = [(2, 1, 0), (0, 2, 0), (2, 1, 2), (3, 0, -1), (1, 4, -1), (3, 1, -2), (1, 4, -2), (1, 4, -2)]
        self.assertEqual(steps_of(parting, 0)[:8], steps)
        self.assertEqual(steps_of(parting, 0)[8:], [(2, 1, -2), (3, 2, -2)])
        steps = [(0, 1, 1), (0, 1, -1), (1, 2, -1), (1, 2, -1), (3, 0, -1), (3, 0, -2), (0, 2, -2), (0, 2, -2), (3, 0, -2)]
        self.assertEqual(steps_of(parting, 1), steps)
        self.assertEqual(least_numbers(parting, 0), [1, 3, 2, 0, 4])
        self.assertEqual(least_numbers(parting, 1), [1, 2, 3, 0])
        self.assertEqual([breadth(parting, way) for way in [0, 1]], [4, 3])
        self.assertEqual(chain_of(parting, 0, 1)[:2], [3, 1])
        self.assertIn(chain_of(parting, 0, 1)[2], [0, 2, 8])

    def test_the_kinds(self):
        for way in [0, 1]:
            self.assertEqual({type(one) for one in lines_of(framed_hook(), way)}, {list})
            self.assertEqual({type(one) for one in steps_of(framed_hook(), way)}, {tuple})
            self.assertIs(type(least_numbers(framed_hook(), way)), list)
            self.assertIs(type(chain_of(framed_hook(), way, 0)), list)
            self.assertIs(type(breadth(framed_hook(), way)), int)


class Rises(unittest.TestCase):
    def test_by_hand(self):
        parting = framed_line()
        for numbers in [[1, 2, 3, 0], [1, 2, 9, -5], [-1, 0, GREAT, -GREAT], [5, 7, 8, 4]]:
            self.assertIs(rises(parting, 0, numbers), True)
        for numbers in [[1, 2, 3, 1], [1, 2, 2, 0], [2, 2, 3, 0], [0, 1, 2, 3], [3, 2, 1, 0], [0] * 4]:
            self.assertIs(rises(parting, 0, numbers), False)
        self.assertIs(rises(parting, 1, [0, -GREAT, GREAT]), True)
        self.assertIs(rises(parting, 1, [0, 0, 1]), False)
        self.assertIs(rises(parting, 1, [0, 1, 2]), False)

    def test_another_length(self):
        for make in [framed_line, framed_square, framed_hook]:
            for way in [0, 1]:
                numbers = least_numbers(make(), way)
                self.assertIs(rises(make(), way, numbers), True)
                for other in [[], numbers[:-1], numbers + [0], numbers + [99], numbers * 2]:
                    self.assertIs(rises(make(), way, other), False)

    def test_each_step_counts(self):
        for make in [framed_line, framed_square, framed_hook]:
            for way in [0, 1]:
                least = least_numbers(make(), way)
                for line, other, piece in steps_by_the_words(make(), way):
                    numbers = [10 * number for number in least]
                    numbers[line] = numbers[other]
                    self.assertIs(rises(make(), way, numbers), False)
                    numbers[line] = numbers[other] + 1
                    self.assertIs(rises(make(), way, numbers), False)

    def test_numbers_at_will(self):
        seen = {True: 0, False: 0}
        for seed in range(2000):
            draw = random.Random(seed)
            parting = draw.choice([framed_line, framed_square, framed_hook])()
            way = draw.randrange(2)
            numbers = [number + draw.choice([0, 0, 0, 1, -1]) for number in least_numbers(parting, way)]
            wanted = all(numbers[line] < numbers[other] for line, other, _ in steps_by_the_words(parting, way))
            seen[wanted] += 1
            self.assertIs(rises(parting, way, numbers), wanted)
        self.assertGreater(min(seen.values()), 100)


class Chains(unittest.TestCase):
    def test_by_hand(self):
        # The steps by way 0: from line 0 to 1, 1 to 2, 3 to 0, 3 to 2, 3 to 2.
        parting = framed_line()
        for line, chain in [(0, [2]), (1, [2, 0]), (1, [0]), (2, [2, 0, 1]), (2, [0, 1]), (2, [1]), (2, [3]), (2, [4])]:
            self.assertIs(is_chain(parting, 0, line, chain), True)
            for other in range(4):
                if other != line:
                    self.assertIs(is_chain(parting, 0, other, chain), False)

    def test_the_empty_list(self):
        for make in [framed_line, framed_square, framed_hook]:
            for way in [0, 1]:
                for line in range(len(lines_of(make(), way))):
                    self.assertIs(is_chain(make(), way, line, []), True)

    def test_a_step_that_doesnt_follow(self):
        for chain in [[2, 1], [2, 3], [3, 1], [0, 0, 1], [1, 2, 0, 1], [2, 0, 0, 1], [4, 3], [1, 1]]:
            self.assertIs(is_chain(framed_line(), 0, 2, chain), False)

    def test_a_number_of_no_step(self):
        parting = framed_line()
        # Counted from the list's end, -3 would be the step 2.
        for line, chain in [
            (0, [-3]), (1, [-3, 0]), (1, [2, -5]), (2, [5]), (2, [-1]), (0, [7]), (1, [2, 5]), (1, [5, 0]), (2, [10 ** 39]),
        ]:
            self.assertIs(is_chain(parting, 0, line, chain), False)
        self.assertIs(is_chain(parting, 1, 0, [4]), False)
        self.assertIs(is_chain(parting, 1, 0, [-4]), False)

    def test_all_short_lists(self):
        for make in [framed_line, framed_square]:
            for way in [0, 1]:
                steps = steps_by_the_words(make(), way)
                numbers = range(-1, len(steps) + 1)
                for chain in [[a] for a in numbers] + [[a, b] for a in numbers for b in numbers]:
                    for line in range(len(lines_of(make(), way))):
                        wanted = all(0 <= place < len(steps) for place in chain)
                        at = None
                        for place in chain if wanted else []:
                            wanted = wanted and at in (None, steps[place][0])
                            at = steps[place][1]
                        self.assertIs(is_chain(make(), way, line, chain), wanted and at == line)


class Told(unittest.TestCase):
    def test_partings_of_all_sorts(self):
        for laid, parting in samples.some_partings():
            for way in [0, 1]:
                self.look_at(parting, way)

    def test_the_greatest_ones(self):
        for seed, (wide, high, share) in enumerate([(15, 15, 0), (15, 15, 0.5), (60, 60, 0), (200, 1, 0), (1, 200, 0)]):
            laid = samples.drawn_laid(seed, wide, high, 200, share)
            for more in [0, 1]:
                parting = parted(samples.turned(laid, more))
                for way in [0, 1]:
                    self.look_at(parting, way)
        parting = parted(samples.grid(20, 10))
        self.assertEqual([breadth(parting, way) for way in [0, 1]], [21, 11])

    def look_at(self, parting, way):
        """Holds what is told against the words of the points."""
        lines = lines_by_the_words(parting[0], way)
        self.assertEqual(lines_of(parting, way), lines)
        steps = steps_by_the_words(parting, way)
        self.assertEqual(steps_of(parting, way), steps)
        least = least_by_the_words(steps, len(lines))
        self.assertEqual(least_numbers(parting, way), least)
        self.assertIs(rises(parting, way, least), True)
        self.assertEqual(breadth(parting, way), max(least))
        self.assertEqual(min(least), 0)
        for line, number in list(enumerate(least))[:: 1 + len(lines) // 40]:
            chain = chain_of(parting, way, line)
            self.assertEqual(len(chain), number)
            self.assertIs(is_chain(parting, way, line, chain), True)
            if chain:
                self.assertEqual(steps[chain[-1]][1], line)
                self.assertEqual([steps[k][1] for k in chain[:-1]], [steps[k][0] for k in chain[1:]])
                self.assertIs(is_chain(parting, way, line, chain[:-1] + [chain[-1] + 1]),
                              chain[-1] + 1 < len(steps) and steps[chain[-1] + 1][:2] == steps[chain[-1]][:2])


class AskersOwn(unittest.TestCase):
    def test_new_lists(self):
        for make in [framed_line, framed_square, framed_hook]:
            for way in [0, 1]:
                for ask in [lines_of, steps_of, least_numbers]:
                    samples.held(self, ask, lambda: (make(), way))
                for line in range(len(lines_of(make(), way))):
                    samples.held(self, chain_of, lambda: (make(), way, line))

    def test_the_judges_change_nothing(self):
        for make in [framed_line, framed_square, framed_hook]:
            for way in [0, 1]:
                parting = make()
                numbers = least_numbers(parting, way)
                chain = chain_of(parting, way, 0)
                handed = (list(numbers), list(chain))
                for _ in range(2):
                    rises(parting, way, numbers)
                    is_chain(parting, way, 0, chain)
                    breadth(parting, way)
                self.assertEqual((parting, numbers, chain), (make(), *handed))


if __name__ == "__main__":
    unittest.main()
