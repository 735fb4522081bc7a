import itertools
import random
import unittest

from fewbends.drawings import drawn, is_drawing, narrowest, shape_of, shortest_drawn
from fewbends.laid import laid_out
from fewbends.lengths import length, shortest
from fewbends.lines import breadth, least_numbers, lines_of, rises
from fewbends.maps import lands
from fewbends.partings import parted
from fewbends.shapes import is_shape, mirrored, shortened, turns
from tests import samples
from tests.samples import every_point

GREAT = 10 ** 40 - 1


def copied(drawing):
    spots, lines = drawing
    return (list(spots), [list(line) for line in lines])


def by_the_words(web, outer, drawing):
    """What point 24 asks, looked at point by point: steps of whole points meet in whole points, if at all."""
    spots, lines = drawing
    if len(spots) != web[0] or len(lines) != len(web[1]) or len(set(spots)) < len(spots):
        return False
    within = {}
    for tie, line in enumerate(lines):
        if len(line) < 2 or (line[0], line[-1]) != (spots[web[1][tie][0]], spots[web[1][tie][1]]):
            return False
        for place, ((x, y), (u, v)) in enumerate(zip(line, line[1:])):
            if (x == u) == (y == v):
                return False
            for point in itertools.product(range(min(x, u), max(x, u) + 1), range(min(y, v), max(y, v) + 1)):
                within.setdefault(point, []).append((tie, place))
        level = [point[1] == after[1] for point, after in zip(line, line[1:])]
        if any(one == other for one, other in zip(level, level[1:])):
            return False
    for point, steps in within.items():
        for (tie, place), (other, after) in itertools.combinations(steps, 2):
            follows = tie == other and after == place + 1 and lines[tie][after] == point
            if not follows and not (closes(lines[tie], place, point) and closes(lines[other], after, point)):
                return False
    return headings_fit(web, lines) and sum_by_walking(web, outer, lines) == -4


def closes(line, place, point):
    return (place == 0 and line[0] == point) or (place == len(line) - 2 and line[-1] == point)


def heading(point, after):
    across, up = after[0] - point[0], after[1] - point[1]
    return [across > 0, up > 0, across < 0, up < 0].index(True)


def leaving(lines, end):
    line = lines[end // 2][:: 1 - 2 * (end % 2)]
    return heading(line[0], line[1])


def headings_fit(web, lines):
    for order in web[2]:
        heads = [leaving(lines, end) for end in order]
        least = heads.index(min(heads))
        rising = heads[least:] + heads[:least]
        if rising != sorted(set(heads)):
            return False
    return True


def sum_by_walking(web, outer, lines):
    """How often one turns to the left, less how often to the right, gone round the land."""
    land = lands(web)[outer]
    heads = []
    backs = 0
    for end, behind in zip(land, land[1:] + land[:1]):
        line = lines[end // 2][:: 1 - 2 * (end % 2)]
        heads += [heading(point, after) for point, after in zip(line, line[1:])]
        if behind == end ^ 1:
            # Turned about by two quarters to the right.
            backs -= 2
            heads.append(None)
    total = backs
    for head, after in zip(heads, heads[1:] + heads[:1]):
        if head is not None and after is not None:
            total += {0: 0, 1: 1, 3: -1}[(after - head) % 4]
    return total


class Judged(unittest.TestCase):
    """What is right, or wrong, is so turned by quarters too."""

    def judge(self, web, outer, drawing, right):
        for _ in range(4):
            self.assertIs(is_drawing(web, outer, drawing), right, drawing)
            drawing = every_point(lambda x, y: (-y, x), drawing)

    def right(self, web, outer, drawing):
        self.judge(web, outer, drawing, True)

    def wrong(self, web, outer, drawing):
        self.judge(web, outer, drawing, False)


class ByHand(Judged):
    def test_right_ones_and_their_shapes(self):
        for make, outer, drawing, shape in samples.DRAWINGS:
            self.right(make(), outer, drawing)
            self.assertIs(by_the_words(make(), outer, drawing), True)
            self.assertEqual(shape_of(make(), drawing), shape)
            self.assertIs(is_shape(make(), outer, shape), True)

    def test_another_land_as_the_outer_one(self):
        for make, outer, drawing, shape in samples.DRAWINGS:
            for other in range(len(lands(make()))):
                if other != outer:
                    self.wrong(make(), other, drawing)

    def test_orders_begun_elsewhere(self):
        for make, outer, drawing, shape in samples.DRAWINGS:
            for web in samples.rotations(make()):
                self.right(web, outer, drawing)
                self.assertEqual(shape_of(web, drawing), shape)

    def test_moved_and_stretched(self):
        for make, outer, drawing, shape in samples.DRAWINGS:
            for change in [
                lambda x, y: (x + 7, y - 30), lambda x, y: (x - GREAT // 2, y + GREAT // 2),
                lambda x, y: (3 * x, 5 * y), lambda x, y: (GREAT // 9 * x, GREAT // 9 * y), lambda x, y: (x ** 3, y ** 3),
            ]:
                self.right(make(), outer, every_point(change, drawing))
                self.assertEqual(shape_of(make(), every_point(change, drawing)), shape)

    def test_turned_by_quarters(self):
        for make, outer, drawing, shape in samples.DRAWINGS:
            for _ in range(4):
                drawing = every_point(lambda x, y: (-y, x), drawing)
                self.right(make(), outer, drawing)
                self.assertEqual(shape_of(make(), drawing), shape)

    def test_mirrored(self):
        for make, outer, drawing, shape in samples.DRAWINGS:
            web, other, mirror = mirrored(make(), outer, shape)
            for change in [lambda x, y: (-x, y), lambda x, y: (x, -y), lambda x, y: (y, x)]:
                seen = every_point(change, drawing)
                self.right(web, other, seen)
                self.assertEqual(shape_of(web, seen), mirror)

    def test_numbers_of_forty_figures(self):
        web = samples.single_tie()
        spots = [(-GREAT, -GREAT), (GREAT, GREAT)]
        self.right(web, 0, (spots, [[spots[0], (GREAT, -GREAT), spots[1]]]))
        self.right(web, 0, (spots, [[spots[0], (-GREAT, 0), (GREAT, 0), spots[1]]]))
        self.wrong(web, 0, (spots, [[spots[0], (GREAT, -GREAT), (GREAT, GREAT - 1)]]))
        # One beside the other by 1 of all that.
        web = samples.ring()
        spots = [(0, 0), (GREAT, 1), (0, 1)]
        self.right(web, 1, (spots, [[(0, 0), (GREAT, 0), (GREAT, 1)], [(GREAT, 1), (0, 1)], [(0, 1), (0, 0)]]))


class Wanting(Judged):
    def test_another_count_of_spots_or_lines(self):
        for make, outer, (spots, lines), shape in samples.DRAWINGS:
            self.wrong(make(), outer, ([], []))
            self.wrong(make(), outer, (spots[:-1], lines))
            self.wrong(make(), outer, (spots + [(99, 99)], lines))
            self.wrong(make(), outer, (spots, lines[:-1]))
            self.wrong(make(), outer, (spots, lines + [[(98, 98), (99, 98)]]))
            self.wrong(make(), outer, (spots, lines + [lines[0]]))
            self.wrong(make(), outer, (spots, []))
            self.wrong(make(), outer, ([], lines))

    def test_a_line_of_fewer_than_two_points(self):
        for make, outer, (spots, lines), shape in samples.DRAWINGS:
            for number, line in enumerate(lines):
                for other in [[], line[:1], line[-1:]]:
                    self.wrong(make(), outer, (spots, lines[:number] + [other] + lines[number + 1:]))

    def test_a_line_that_begins_or_ends_elsewhere(self):
        for make, outer, (spots, lines), shape in samples.DRAWINGS:
            for number, line in enumerate(lines):
                for other in [line[::-1], line[1:], line[:-1]]:
                    # A tie of a place with itself may begin and end there either way about, but its turns don't fit.
                    self.wrong(make(), outer, (spots, lines[:number] + [other] + lines[number + 1:]))
        spots = [(0, 0), (3, 0)]
        for line in [[(0, 0), (2, 0)], [(1, 0), (3, 0)], [(0, 0), (4, 0)], [(3, 0), (0, 0)], [(0, 1), (3, 1)]]:
            self.wrong(samples.single_tie(), 0, (spots, [line]))

    def test_lines_of_other_ties(self):
        for make, outer, (spots, lines), shape in samples.DRAWINGS:
            if len(spots) > 1:
                self.wrong(make(), outer, (spots[1:] + spots[:1], lines))
                if len(lines) > 1:
                    self.wrong(make(), outer, (spots, lines[1:] + lines[:1]))

    def test_steps_neither_level_nor_upright_or_by_nought(self):
        web = samples.single_tie()
        for line in [
            [(0, 0), (1, 1)], [(0, 0), (2, -1), (2, 3)], [(0, 0), (0, 0), (4, 0)], [(0, 0), (4, 0), (4, 0)],
            [(0, 0), (2, 0), (2, 0), (2, 3)], [(0, 0), (2, 0), (3, 1)], [(0, 0), (1, 2), (1, 3)],
        ]:
            self.wrong(web, 0, ([line[0], line[-1]], [line]))
        self.wrong(samples.self_tie(), 1, ([(0, 0)], [[(0, 0), (0, 0)]]))
        self.wrong(samples.self_tie(), 0, ([(0, 0)], [[(0, 0), (0, 0)]]))

    def test_two_steps_in_one_direction(self):
        web = samples.single_tie()
        for line in [
            [(0, 0), (1, 0), (4, 0)], [(0, 0), (0, 1), (0, 4)], [(0, 0), (0, 1), (2, 1), (4, 1)],
            [(4, 0), (1, 0), (0, 0)], [(0, 0), (2, 0), (2, 1), (2, 3), (4, 3)],
            # Straight back, to beyond its begin or not.
            [(0, 0), (3, 0), (1, 0)], [(0, 0), (0, 3), (0, 1)], [(0, 0), (3, 0), (-1, 0)], [(0, 0), (0, -3), (0, 5)],
        ]:
            self.wrong(web, 0, ([line[0], line[-1]], [line]))
        self.wrong(samples.self_tie(), 0, ([(0, 0)], [[(0, 0), (3, 0), (0, 0)]]))
        self.wrong(samples.self_tie(), 1, ([(0, 0)], [[(0, 0), (3, 0), (0, 0)]]))

    def test_two_spots_alike(self):
        # Each place with one tie, at one spot, by unlike headings; nothing else is wrong.
        path = (4, [(0, 1), (1, 2), (2, 3)], [[0], [1, 2], [3, 4], [5]])
        lines = [[(0, 0), (1, 0)], [(1, 0), (1, 1), (0, 1)], [(0, 1), (0, 0)]]
        self.wrong(path, 0, ([(0, 0), (1, 0), (0, 1), (0, 0)], lines))
        # A ring with these lines is right.
        self.right((3, [(0, 1), (1, 2), (2, 0)], [[0, 5], [2, 1], [3, 4]]), 1, ([(0, 0), (1, 0), (0, 1)], lines))
        self.wrong(samples.single_tie(), 0, ([(0, 0), (0, 0)], [[(0, 0), (1, 0), (1, 1), (0, 1), (0, 0)]]))
        self.wrong(samples.single_tie(), 0, ([(0, 0), (0, 0)], [[(0, 0), (0, 0)]]))

    def test_a_line_that_meets_itself(self):
        web = samples.single_tie()
        for line in [
            # It crosses itself.
            [(0, 0), (4, 0), (4, 2), (2, 2), (2, -2)],
            # An end on a step, on the line's own last but one too, and a turn on a turn.
            [(0, 0), (4, 0), (4, 2), (2, 2), (2, 0)],
            [(0, 0), (3, 0), (3, 2), (1, 2), (1, 4), (2, 4), (2, 2)],
            [(0, 0), (4, 0), (4, 2), (2, 2), (2, 1), (4, 1)],
            [(0, 0), (2, 0), (2, 2), (4, 2), (4, 4), (2, 4), (2, 2), (0, 2)],
            # It runs over itself.
            [(0, 0), (4, 0), (4, 2), (2, 2), (2, 0), (3, 0)],
            [(0, 0), (4, 0), (4, 1), (5, 1), (5, 0), (3, 0)],
            # Through its own begin, and with a turn there.
            [(0, 0), (2, 0), (2, 2), (-1, 2), (-1, 0), (1, 0)],
            [(0, 0), (2, 0), (2, 2), (0, 2), (0, -2)],
            [(0, 0), (2, 0), (2, 2), (0, 2), (0, 0), (-2, 0)],
        ]:
            self.wrong(web, 0, ([line[0], line[-1]], [line]))

    def test_a_line_that_comes_back_to_its_place_otherwise_than_by_its_end(self):
        # A loop that passes its spot on the way, straight and with a turn.
        web = samples.self_tie()
        for outer in [0, 1]:
            self.wrong(web, outer, ([(0, 0)], [
                [(0, 0), (2, 0), (2, 2), (0, 2), (0, -2), (-2, -2), (-2, 0), (0, 0)],
            ]))
            self.wrong(web, outer, ([(0, 0)], [
                [(0, 0), (2, 0), (2, 2), (0, 2), (0, 0), (-2, 0), (-2, -2), (0, -2), (0, 0)],
            ]))

    def test_lines_that_meet_one_another(self):
        # The tie 1 of a path of three ties stands at (4, y); the others come near it or to it.
        path = (4, [(0, 1), (1, 2), (2, 3)], [[0], [1, 2], [3, 4], [5]])
        first = [(0, 0), (4, 0)]
        for last, right in [
            ([(4, 3), (2, 3)], True), ([(4, 3), (2, 3), (2, 1)], True),
            # To its end on the first line, through it, with a turn on it, over it, to its begin.
            ([(4, 3), (2, 3), (2, 0)], False), ([(4, 3), (2, 3), (2, -1)], False),
            ([(4, 3), (2, 3), (2, 0), (1, 0)], False), ([(4, 3), (2, 3), (2, 0), (3, 0)], False),
            ([(4, 3), (0, 3), (0, 0)], False), ([(4, 3), (0, 3), (0, -1)], False), ([(4, 3), (0, 3), (0, 1)], True),
            ([(4, 3), (-1, 3), (-1, 0), (2, 0)], False), ([(4, 3), (-1, 3), (-1, 0), (0, 0)], False),
            ([(4, 3), (6, 3), (6, 1), (4, 1)], False), ([(4, 3), (6, 3), (6, 1), (3, 1)], False),
            ([(4, 3), (6, 3), (6, 1), (5, 1)], True), ([(4, 3), (6, 3), (6, 0), (4, 0)], False),
            ([(4, 3), (6, 3), (6, 0), (5, 0)], True), ([(4, 3), (4, 1)], False), ([(4, 3), (4, 5)], True),
        ]:
            drawing = ([(0, 0), (4, 0), (4, 3), last[-1]], [first, [(4, 0), (4, 3)], last])
            self.judge(path, 0, drawing, right)
            self.assertIs(by_the_words(path, 0, drawing), right, last)

    def test_lines_that_would_meet_between_whole_points(self):
        # By twice as much all of them lie on whole points, so halfway they would have crossed.
        path = (4, [(0, 1), (1, 2), (2, 3)], [[0], [1, 2], [3, 4], [5]])
        lines = [[(0, 0), (1, 0)], [(1, 0), (1, 1)], [(1, 1), (0, 1), (0, 0), (0, -1)]]
        self.wrong(path, 0, ([(0, 0), (1, 0), (1, 1), (0, -1)], lines))
        for far in [1, 2, 10 ** 39]:
            lines = [[(0, 0), (far, 0)], [(far, 0), (far, far)], [(far, far), (0, far), (0, 0)]]
            self.wrong(path, 0, ([(0, 0), (far, 0), (far, far), (0, 0)], lines))
        # Over one another by less than from one point to the next can't be; by just one it can.
        lines = [[(0, 0), (2, 0)], [(2, 0), (2, 1), (3, 1)], [(3, 1), (3, 0), (1, 0)]]
        self.wrong(path, 0, ([(0, 0), (2, 0), (3, 1), (1, 0)], lines))

    def test_two_ties_over_one_another(self):
        web = samples.two_ties()
        line = [(0, 0), (3, 0)]
        for outer in [0, 1]:
            self.wrong(web, outer, ([(0, 0), (3, 0)], [line, line]))
            self.wrong(web, outer, ([(0, 0), (3, 0)], [line, [(0, 0), (1, 0), (1, 1), (3, 1), (3, 0)]]))
            self.wrong(web, outer, ([(0, 0), (3, 0)], [line, [(0, 0), (0, 1), (2, 1), (2, 0), (3, 0)]]))

    def test_two_ends_that_leave_by_one_heading(self):
        # At the first place both to the east; the longer one passes the shorter one's spot, or turns ahead of it.
        web = (3, [(0, 1), (0, 2)], [[0, 2], [1], [3]])
        for line in [[(0, 0), (5, 0)], [(0, 0), (2, 0), (2, 2)], [(0, 0), (3, 0), (3, 2)]]:
            self.wrong(web, 0, ([(0, 0), (3, 0), line[-1]], [[(0, 0), (3, 0)], line]))

    def test_a_line_through_a_spot(self):
        web = (3, [(0, 1), (1, 2)], [[0], [1, 2], [3]])
        # The second tie leads from the place 1 back over the place 0.
        line = [(3, 0), (3, 1), (-1, 1), (-1, 0), (0, 0), (0, -1)]
        self.wrong(web, 0, ([(0, 0), (3, 0), (0, -1)], [[(0, 0), (3, 0)], line]))
        line = [(3, 0), (3, 1), (0, 1), (0, -1)]
        self.wrong(web, 0, ([(0, 0), (3, 0), (0, -1)], [[(0, 0), (3, 0)], line]))

    def test_an_order_that_isnt_round_to_the_left(self):
        # All orders of the star's place: only those that come round to the left are right.
        many, ties, orders = samples.star()
        drawing = [one for one in samples.DRAWINGS if one[0] == samples.star][0][2]
        for order in itertools.permutations(orders[0]):
            right = list(order) in [orders[0][k:] + orders[0][:k] for k in range(4)]
            self.assertIs(is_drawing((many, ties, [list(order)] + orders[1:]), 0, drawing), right)
        many, ties, orders = samples.tree()
        spots = [(0, 0), (1, 0), (0, 1), (-1, 0)]
        lines = [[(0, 0), spot] for spot in spots[1:]]
        self.right((many, ties, orders), 0, (spots, lines))
        self.wrong((many, ties, [orders[0][::-1]] + orders[1:]), 0, (spots, lines))
        for make, outer, drawing, shape in samples.DRAWINGS:
            web = make()
            mirror = (web[0], web[1], [order[::-1] for order in web[2]])
            if max(len(order) for order in web[2]) > 2:
                for other in range(len(lands(mirror))):
                    self.wrong(mirror, other, drawing)

    def test_a_ring_the_other_way_round(self):
        # With two ends at each place each order is round to the left; but the land lies outside then.
        for make, outer, drawing, shape in samples.DRAWINGS:
            if make in (samples.ring, samples.self_tie):
                seen = every_point(lambda x, y: (-x, y), drawing)
                self.wrong(make(), outer, seen)
                self.right(make(), 1 - outer, seen)


class AtWill(Judged):
    def test_right_drawings_made_without_the_program(self):
        for web, outer, drawing in samples.some_at_will(250):
            self.assertIs(by_the_words(web, outer, drawing), True)
            for other in range(len(lands(web))):
                self.assertIs(is_drawing(web, other, drawing), other == outer)
            shape = shape_of(web, drawing)
            self.assertIs(is_shape(web, outer, shape), True)
            self.assertEqual(turns(shape), [len(line) - 2 for line in drawing[1]])

    def test_changed_drawings_by_the_words_of_the_point(self):
        seen = {True: 0, False: 0}
        made = list(samples.some_at_will(150))
        for seed in range(6000):
            draw = random.Random(seed)
            web, outer, drawing = draw.choice(made)
            stretched = every_point(lambda x, y: (2 * x, 2 * y), drawing)
            changed = changed_somewhere(draw, stretched)
            wanted = by_the_words(web, outer, changed)
            seen[wanted] += 1
            self.judge(web, outer, changed, wanted)
        self.assertGreater(min(seen.values()), 500)

    def test_drawings_of_few_points_by_the_words_of_the_point(self):
        # All lines of up to four steps on a small sheet, for a tie alone and for a loop.
        seen = {True: 0, False: 0}
        for count in range(1, 5):
            for steps in itertools.product([(1, 0), (0, 1), (-1, 0), (0, -1), (2, 0), (0, -2)], repeat=count):
                line = [(0, 0)]
                for across, up in steps:
                    line.append((line[-1][0] + across, line[-1][1] + up))
                for web, spots in [(samples.single_tie(), [line[0], line[-1]]), (samples.self_tie(), [line[0]])]:
                    for outer in range(len(lands(web))):
                        wanted = by_the_words(web, outer, (spots, [line]))
                        seen[wanted] += 1
                        self.judge(web, outer, (spots, [line]), wanted)
        self.assertGreater(min(seen.values()), 100)

    def test_lines_of_many_points(self):
        # Two winding lines side by side, of five hundred points each; the second one is led round to the first.
        stairs = [((k + 1) // 2, k // 2) for k in range(500)]
        beside = [(x + 2, y - 1) for x, y in stairs]
        web = (4, [(0, 1), (2, 3), (0, 2)], [[0, 4], [1], [5, 2], [3]])
        link = [stairs[0], (0, -1), beside[0]]
        for more, right in [
            ([], True), ([(400, 248), (400, 300), (0, 300), (0, 2), (1, 2)], True),
            ([(400, 248), (400, 300), (0, 300), (0, 2), (2, 2)], False),
            ([(400, 248), (400, 300), (0, 300), (0, 2), (5, 2)], False),
        ]:
            line = beside[:-1] + more if more else beside
            drawing = ([stairs[0], stairs[-1], beside[0], line[-1]], [stairs, line, link])
            self.judge(web, 0, drawing, right)
            self.assertIs(by_the_words(web, 0, drawing), right)


def changed_somewhere(draw, drawing):
    """One thing of a drawing is changed at will."""
    spots, lines = copied(drawing)
    line = draw.choice(lines)
    what = draw.randrange(5)
    if what == 0:
        # One row or column of the sheet is put elsewhere.
        way = draw.randrange(2)
        old = draw.choice(line)[way]
        new = old + draw.choice([-3, -2, -1, 1, 2, 3])
        shift = lambda *point: tuple(new if k == way and old == one else one for k, one in enumerate(point))
        return every_point(shift, drawing)
    if what == 1:
        # Some step takes a way round.
        place = draw.randrange(len(line) - 1)
        (x, y), (u, v) = line[place:place + 2]
        by = draw.choice([-3, -2, -1, 1, 2, 3])
        if y == v:
            line[place + 1:place + 1] = [(x, y + by), (u, v + by)]
        else:
            line[place + 1:place + 1] = [(x + by, y), (u + by, v)]
        if draw.random() < 0.5:
            # Begun and ended within the step.
            ends = [((x + u) // 2, y), ((x + u) // 2, y + by)] if y == v else [(x, (y + v) // 2), (x + by, (y + v) // 2)]
            line[place + 1:place + 2] = ends
    if what == 2:
        line.reverse()
    if what == 3:
        line[draw.randrange(len(line))] = (draw.randint(-3, 9), draw.randint(-3, 9))
    if what == 4:
        other = draw.randrange(len(spots))
        spots[0], spots[other] = spots[other], spots[0]
    return (spots, lines)


class Drawn(Judged):
    def test_by_hand(self):
        # The tie alone is parted so that the place 0 comes ahead of the place 1.
        told = narrowest(samples.single_tie(), 0, ([4, 4], [0, 0]))
        self.assertEqual(told, ([(1, 1), (2, 1)], [[(1, 1), (2, 1)]]))
        # The ring with a turn, in a square of 1 by 1 within the frame.
        told = narrowest(samples.ring(), 1, ([1, 3, 1, 3, 1, 3], [1, 0, 0, 0, 0, 0]))
        lines = [[(1, 1), (2, 1), (2, 2)], [(2, 2), (1, 2)], [(1, 2), (1, 1)]]
        self.assertEqual(told, ([(1, 1), (2, 2), (1, 2)], lines))
        told = shortest_drawn(samples.ring(), 1, ([1, 3, 1, 3, 1, 3], [1, 0, 0, 0, 0, 0]))
        sizes = [abs(x - u) + abs(y - v) for line in told[1] for (x, y), (u, v) in zip(line, line[1:])]
        self.assertEqual(sizes, [1, 1, 1, 1])

    def test_by_numbers(self):
        web = samples.single_tie()
        parting = parted(laid_out(web, 0, ([4, 4], [0, 0]))[0])
        across = {}
        for numbers in [[4, 9, 70, -3], [-GREAT, GREAT, GREAT + 1, -GREAT - 1]]:
            # Where the lines stand in the told parting is its own affair.
            lines = lines_of(parting, 0)
            order = sorted(range(len(lines)), key=lambda line: least_numbers(parting, 0)[line])
            for line, number in zip(order, sorted(numbers)):
                across[line] = number
            handed = [across[line] for line in range(len(lines))]
            upward = [7 * number - 5 for number in least_numbers(parting, 1)]
            told = drawn(web, 0, ([4, 4], [0, 0]), handed, upward)
            self.assertEqual(told[1], [told[0]])
            self.assertEqual([x for x, y in told[0]], sorted(numbers)[1:3])
            self.assertEqual({y for x, y in told[0]}, {2})

    def test_shapes_by_hand(self):
        for make, outer, shape in samples.SHAPES:
            for web in samples.rotations(make()):
                self.look_at(web, outer, shape, 1)

    def test_told_shapes(self):
        for seed in range(60):
            many = 2 + seed % 9
            web, outer, shape = samples.drawn_shape(seed, many, min(many + seed % 7, 2 * many - 1))
            self.look_at(web, outer, shape, seed)

    def test_the_greatest_maps(self):
        for seed in range(4):
            web, outer, shape = samples.drawn_shape(seed, 10, 16)
            self.look_at(web, outer, shape, seed)

    def test_shapes_that_arent_shortened(self):
        for seed in range(30):
            many = 2 + seed % 9
            web, outer, shape = samples.drawn_shape(seed, many, min(many + seed % 5, 2 * many - 1))
            more = samples.with_more_turns(seed, shape, 2)
            self.assertEqual(shortened(more), shape)
            self.look_at(web, outer, more, seed)

    def test_thirty_turns(self):
        for lefts in [[30, 0], [0, 30], [15, 15], [1, 29]]:
            self.look_at(samples.single_tie(), 0, ([4, 4], lefts), 1)
        self.look_at(samples.self_tie(), 1, ([1, 3], [16, 13]), 1)

    def test_shapes_read_off_drawings(self):
        for web, outer, drawing in samples.some_at_will(60):
            self.look_at(web, outer, shape_of(web, drawing), len(web[1]))

    def look_at(self, web, outer, shape, seed):
        """Holds the drawings that are told against the words of the points."""
        laid, owners = laid_out(web, outer, shape)
        parting = parted(laid)
        least = [least_numbers(parting, way) for way in [0, 1]]
        short = [shortest(parting, way)[0] for way in [0, 1]]
        draw = random.Random(seed)
        far = draw.choice([2, 7, 10 ** 30])
        will = [[far * number + draw.randint(0, far - 1) - 5 * far for number in numbers] for numbers in least]
        for (across, upward), told in [
            (least, narrowest(web, outer, shape)), (short, shortest_drawn(web, outer, shape)),
            (will, drawn(web, outer, shape, *will)), ((short[0], will[1]), drawn(web, outer, shape, short[0], will[1])),
        ]:
            self.assertIs(rises(parting, 0, across) and rises(parting, 1, upward), True)
            self.right(web, outer, told)
            self.assertEqual(shape_of(web, told), shape)
            self.assertEqual(told, drawing_by(web, laid, owners, parting, across, upward))
        told = narrowest(web, outer, shape)
        points = told[0] + [point for line in told[1] for point in line]
        for way in [0, 1]:
            # The frame lies outside of all points.
            self.assertGreater(min(point[way] for point in points), 0)
            self.assertLess(max(point[way] for point in points), breadth(parting, way))
        told = shortest_drawn(web, outer, shape)
        sizes = [0, 0]
        for line in told[1]:
            for (x, y), (u, v) in zip(line, line[1:]):
                sizes[0] += abs(x - u)
                sizes[1] += abs(y - v)
        self.assertEqual(sizes, [length(parting, way, short[way]) for way in [0, 1]])


def drawing_by(web, laid, owners, parting, across, upward):
    """What point 26 tells, by the lines that have the places in them."""
    def point(place):
        return tuple(
            numbers[[place in line for line in lines_of(parting, way)].index(True)]
            for way, numbers in [(0, across), (1, upward)]
        )

    spots = [point(place) for place in range(web[0])]
    lines = []
    for tie in range(len(web[1])):
        pieces = [laid[1][k] for k, owner in enumerate(owners) if owner == tie]
        lines.append([point(a) for a, b in pieces] + [point(pieces[-1][1])])
    return (spots, lines)


class AskersOwn(unittest.TestCase):
    def test_new_lists(self):
        for make, outer, drawing, shape in samples.DRAWINGS:
            samples.held(self, shape_of, lambda: (make(), copied(drawing)))
            for ask in [narrowest, shortest_drawn]:
                samples.held(self, ask, lambda: (make(), outer, (list(shape[0]), list(shape[1]))))
            parting = parted(laid_out(make(), outer, shape)[0])
            samples.held(self, drawn, lambda: (
                make(), outer, (list(shape[0]), list(shape[1])), least_numbers(parting, 0), least_numbers(parting, 1),
            ))

    def test_the_judge_changes_nothing(self):
        for make, outer, drawing, shape in samples.DRAWINGS:
            web, handed = make(), copied(drawing)
            for _ in range(2):
                is_drawing(web, outer, handed)
                is_drawing(web, outer, (handed[0][:-1], handed[1]))
            self.assertEqual((web, handed), (make(), drawing))

    def test_the_kinds(self):
        told = narrowest(samples.ring(), 1, ([1, 3, 1, 3, 1, 3], [1, 0, 0, 0, 0, 0]))
        self.assertIs(type(told), tuple)
        self.assertEqual([type(part) for part in told], [list, list])
        self.assertEqual({type(point) for point in told[0]}, {tuple})
        self.assertEqual({type(line) for line in told[1]}, {list})
        self.assertEqual({type(point) for line in told[1] for point in line}, {tuple})


if __name__ == "__main__":
    unittest.main()
