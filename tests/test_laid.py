import itertools
import unittest

from fewbends.errors import NoLaid, NoLand, NoMap, NoShape, NotFlat
from fewbends.fewest import fewest
from fewbends.laid import check_laid, corners_of, laid_out, map_of, outer_of
from fewbends.maps import behind, is_flat, lands
from fewbends.shapes import is_shape
from tests import samples
from tests.samples import cross, drawn_map, drawn_wishes, free_wishes, grid, square, stalks, two_squares

RIGHT = samples.LAID


class CheckLaid(unittest.TestCase):
    def right(self, laid):
        self.assertIsNone(check_laid(laid))

    def wrong(self, laid):
        with self.assertRaises(NoLaid, msg=str(laid)):
            check_laid(laid)

    def test_right_ones(self):
        for make in RIGHT:
            self.right(make())
        for head in range(4):
            self.right((2, [(0, 1)], [head]))
            self.right((2, [(1, 0)], [head]))

    def test_turned_about(self):
        for make in RIGHT:
            for more in range(4):
                many, ties, heads = make()
                self.right((many, ties, [(head + more) % 4 for head in heads]))

    def test_gone_along_the_other_way(self):
        many, ties, heads = two_squares()
        for number, (a, b) in enumerate(ties):
            others = ties[:number] + [(b, a)] + ties[number + 1:]
            turned = heads[:number] + [(heads[number] + 2) % 4] + heads[number + 1:]
            self.right((many, others, turned))
            self.wrong((many, others, heads))

    def test_no_place_or_no_tie(self):
        self.wrong((0, [], []))
        self.wrong((1, [], []))
        self.wrong((0, [(0, 0)], [0]))
        self.wrong((0, [(0, 1)], [0]))
        self.wrong((-1, [(0, 1)], [0]))
        self.wrong((-2, [(-1, -2)], [0]))
        self.wrong((2, [], []))
        self.wrong((2, [], [0]))

    def test_headings_more_or_fewer(self):
        many, ties, heads = square()
        for other in [[], heads[:-1], heads + [0], heads + [3], heads * 2]:
            self.wrong((many, ties, other))
        self.wrong((2, [(0, 1)], []))
        self.wrong((2, [(0, 1)], [0, 0]))

    def test_ties_that_name_what_is_no_place(self):
        for wrong in [2, 3, -1, -2, 10 ** 30]:
            self.wrong((2, [(0, wrong)], [0]))
            self.wrong((2, [(wrong, 1)], [0]))
        many, ties, heads = square()
        for number, (a, b) in enumerate(ties):
            # Counted from the end the place would be the right one.
            self.wrong((many, ties[:number] + [(a - many, b)] + ties[number + 1:], heads))
            self.wrong((many, ties[:number] + [(a, b - many)] + ties[number + 1:], heads))
        self.wrong((many - 1, ties, heads))

    def test_what_is_no_heading(self):
        many, ties, heads = square()
        for number, head in enumerate(heads):
            for wrong in [head + 4, head - 4, head + 400, 4, -1]:
                self.wrong((many, ties, heads[:number] + [wrong] + heads[number + 1:]))

    def test_two_ends_that_leave_by_one_heading(self):
        self.wrong((3, [(0, 1), (0, 2)], [0, 0]))
        self.wrong((3, [(0, 1), (2, 0)], [0, 2]))
        self.wrong((3, [(1, 0), (2, 0)], [1, 1]))
        self.wrong((2, [(0, 1), (0, 1)], [0, 0]))
        self.right((3, [(0, 1), (0, 2)], [0, 2]))
        self.right((3, [(0, 1), (2, 0)], [0, 0]))
        many, ties, heads = cross()
        self.wrong((many + 1, ties + [(0, 5)], heads + [0]))

    def test_places_that_dont_hang_together(self):
        self.wrong((3, [(0, 1)], [0]))
        self.wrong((4, [(0, 1), (2, 3)], [0, 0]))
        many, ties, heads = square()
        self.wrong((many + 1, ties, heads))
        self.wrong((10 ** 39, ties, heads))
        self.wrong((8, ties + [(a + 4, b + 4) for a, b in ties], heads + heads))

    def test_loops_that_cross_beside_a_tie(self):
        # All counts and sums are right here, but for that it doesn't hang together.
        self.wrong((3, [(0, 1), (2, 2), (2, 2)], [0, 0, 1]))

    def test_what_isnt_flat(self):
        self.wrong((1, [(0, 0), (0, 0)], [0, 1]))
        self.wrong((2, [(0, 1), (0, 1), (0, 1), (0, 1)], [0, 1, 2, 3]))

    def test_lands_that_dont_close(self):
        self.wrong((1, [(0, 0)], [0]))
        self.wrong((2, [(0, 1), (1, 0)], [0, 0]))
        many, ties, heads = square()
        self.wrong((many, ties, [0, 1, 0, 3]))
        self.wrong((3, [(0, 1), (1, 2), (2, 0)], [0, 1, 2]))
        # Round twice before one is back: the sums are 8 and -8.
        twice = [(place, (place + 1) % 8) for place in range(8)]
        self.wrong((8, twice, [0, 1, 2, 3, 0, 1, 2, 3]))

    def test_two_lands_to_be_the_outer_one(self):
        # A tie from one oblong to another; where it leaves both inward the sums are -4, -4 and 12.
        ties = [(0, 1), (1, 2), (2, 3), (3, 4), (4, 0), (5, 6), (6, 7), (7, 8), (8, 9), (9, 5), (1, 8)]
        heads = [0, 0, 1, 2, 3, 0, 1, 2, 2, 3]
        self.right((10, ties, heads + [3]))
        self.wrong((10, ties, heads + [1]))

    def test_one_land_to_be_the_outer_one_and_others_off(self):
        # Round twice, and a tie outside of it: the sums are 8, 0 and -4.
        twice = [(place, (place + 1) % 8) for place in range(8)]
        self.wrong((8, twice + [(0, 2)], [0, 1, 2, 3, 0, 1, 2, 3, 2]))
        self.wrong((8, twice + [(0, 6)], [0, 1, 2, 3, 0, 1, 2, 3, 3]))

    def test_all_headings_by_the_words_of_the_point(self):
        seen = {True: 0, False: 0}
        for many, ties in samples.FEW_TIES:
            for heads in itertools.product(range(4), repeat=len(ties)):
                laid = (many, ties, list(heads))
                told = by_the_words(laid)
                seen[told] += 1
                if told:
                    self.right(laid)
                else:
                    self.wrong(laid)
        self.assertGreater(min(seen.values()), 100)

    def test_greater_than_maps_may_be(self):
        laid = grid(21, 20)
        self.assertGreater(laid[0], 400)
        self.assertGreater(len(laid[1]), 790)
        self.right(laid)
        self.assertEqual(len(lands(map_of(laid))), 20 * 19 + 1)
        self.assertEqual(outer_of(laid), 1)
        self.wrong((laid[0], laid[1], laid[2][:-1] + [0]))
        self.wrong((laid[0] + 1, laid[1], laid[2]))
        many = 1000
        path = [(place, place + 1) for place in range(many - 1)]
        self.right((many, path, [0] * (many - 1)))
        self.right((many, path, [0, 1, 0, 3] * 249 + [0, 0, 0]))
        self.wrong((many, path, [0, 2] + [0] * (many - 3)))

    def test_bounds_of_the_document(self):
        laid = grid(20, 10)
        self.assertEqual(laid[0], 200)
        self.right(laid)


def by_the_words(laid):
    """What the point asks of places and ties in the right form."""
    many, ties, heads = laid
    leaving = [[] for _ in range(many)]
    for number, (a, b) in enumerate(ties):
        leaving[a].append((heads[number], 2 * number))
        leaving[b].append(((heads[number] + 2) % 4, 2 * number + 1))
    for ends in leaving:
        if len({heading for heading, end in ends}) < len(ends):
            return False
    web = (many, ties, [[end for heading, end in sorted(ends)] for ends in leaving])
    if not samples.is_joined(many, ties) or not is_flat(web):
        return False
    heading_of = {end: heading for ends in leaving for heading, end in ends}
    sums = []
    for land in lands(web):
        sums.append(0)
        for end in land:
            heading = heading_of[end ^ 1]
            corner = 0
            while corner == 0 or heading != heading_of[behind(web, end)]:
                heading = {0: 3, 3: 2, 2: 1, 1: 0}[heading]
                corner += 1
            sums[-1] += 2 - corner
    return sums.count(-4) == 1 and sums.count(4) == len(sums) - 1


class WhatIsLaidOut(unittest.TestCase):
    def test_a_line_by_hand(self):
        for head in range(4):
            laid = (2, [(0, 1)], [head])
            self.assertEqual(map_of(laid), (2, [(0, 1)], [[0], [1]]))
            self.assertEqual(corners_of(laid), [4, 4])
            self.assertEqual(outer_of(laid), 0)

    def test_a_square_by_hand(self):
        web = map_of(square())
        self.assertEqual(web, (4, [(0, 1), (1, 2), (2, 3), (3, 0)], [[0, 7], [2, 1], [4, 3], [5, 6]]))
        self.assertEqual(lands(web), [[0, 2, 4, 6], [1, 7, 5, 3]])
        self.assertEqual(corners_of(square()), [1, 3, 1, 3, 1, 3, 1, 3])
        self.assertEqual(outer_of(square()), 1)

    def test_a_square_round_to_the_right_by_hand(self):
        laid = (4, [(0, 1), (1, 2), (2, 3), (3, 0)], [0, 3, 2, 1])
        self.assertEqual(map_of(laid)[2], [[0, 7], [1, 2], [3, 4], [5, 6]])
        self.assertEqual(corners_of(laid), [3, 1, 3, 1, 3, 1, 3, 1])
        self.assertEqual(outer_of(laid), 0)

    def test_a_cross_by_hand(self):
        # East 0, north 2, west 4, and 7 to the south.
        self.assertEqual(map_of(cross()), (5, cross()[1], [[0, 2, 4, 7], [1], [3], [5], [6]]))
        self.assertEqual(corners_of(cross()), [4, 1, 4, 1, 4, 1, 1, 4])
        self.assertEqual(outer_of(cross()), 0)

    def test_two_squares_by_hand(self):
        web = map_of(two_squares())
        self.assertEqual(
            web[2],
            [[0, 12], [2, 10, 1], [5, 3], [6, 13], [8, 7, 11], [9, 4]],
        )
        self.assertEqual(lands(web), [[0, 10, 7, 13], [1, 12, 6, 8, 4, 3], [2, 5, 9, 11]])
        self.assertEqual(corners_of(two_squares()), [1, 3, 1, 2, 3, 1, 2, 1, 3, 1, 1, 1, 3, 1])
        self.assertEqual(outer_of(two_squares()), 1)

    def test_stalks_by_hand(self):
        web = map_of(stalks())
        self.assertEqual(web[:2], stalks()[:2])
        self.assertEqual(web[2], [[0, 9], [2, 10, 1], [13, 4, 3], [6, 5], [7, 8], [11], [12]])
        self.assertEqual(lands(web), [[0, 10, 11, 2, 4, 6, 8], [1, 9, 7, 5, 13, 12, 3]])
        self.assertEqual(corners_of(stalks()), [1, 3, 1, 2, 1, 1, 1, 3, 1, 3, 4, 1, 2, 4])
        self.assertEqual(outer_of(stalks()), 1)

    def test_it_is_a_map_with_a_shape_without_turns(self):
        for laid in [make() for make in RIGHT] + [grid(4, 3), grid(1, 5), grid(6, 1)]:
            corners = corners_of(laid)
            shape = (corners, [0] * len(corners))
            self.assertIs(is_shape(map_of(laid), outer_of(laid), shape), True)

    def test_orders_begin_with_the_least_heading(self):
        for laid in [make() for make in RIGHT] + [grid(4, 3)]:
            for order in map_of(laid)[2]:
                headings = [(laid[2][end // 2] + 2 * (end % 2)) % 4 for end in order]
                self.assertEqual(headings, sorted(headings))

    def test_the_kinds(self):
        web = map_of(square())
        self.assertEqual([type(part) for part in web], [int, list, list])
        self.assertIs(type(corners_of(square())), list)
        self.assertIs(type(outer_of(square())), int)


class Refusals(unittest.TestCase):
    SHAPE = ([4, 4], [0, 0])

    def test_no_map(self):
        many, ties, orders = samples.crossing_loops()
        for wrong in [
            (0, [], []), (1, [], [[]]), (2, [(0, 1)], [[0]]), (2, [(0, 1)], [[1], [0]]), (2, [(0, 2)], [[0], [1]]),
            (-1, [(0, 1)], [[0], [1]]), (1, [(0, -1)], [[0, 1]]), (many + 1, ties, orders + [[]]),
        ]:
            for outer in [0, -1, 99]:
                for shape in [self.SHAPE, ([], [])]:
                    with self.assertRaises(NoMap):
                        laid_out(wrong, outer, shape)

    def test_not_flat(self):
        for make in samples.NOT_FLAT:
            for outer in [0, -1, 99]:
                for shape in [([1] * 4, [0] * 4), ([], [])]:
                    with self.assertRaises(NotFlat):
                        laid_out(make(), outer, shape)

    def test_no_land(self):
        for make, outer, shape in samples.SHAPES:
            many = len(lands(make()))
            for wrong in [many, many + 1, -1, -many, outer - many, 10 ** 30]:
                for handed in [shape, ([], [])]:
                    with self.assertRaises(NoLand):
                        laid_out(make(), wrong, handed)

    def test_no_shape(self):
        for make, outer, (corners, lefts) in samples.SHAPES:
            for wrong in [
                ([], []), (corners, []), ([], lefts), (corners[:-1], lefts), (corners, lefts + [0]),
                (corners + [1], lefts), (corners[:-1] + [corners[-1] % 4 + 1], lefts),
                (corners[:-1] + [0], lefts), (corners, [-1, -1] + lefts[2:]),
            ]:
                with self.assertRaises(NoShape):
                    laid_out(make(), outer, wrong)
            for other in range(len(lands(make()))):
                if other != outer:
                    with self.assertRaises(NoShape):
                        laid_out(make(), other, (corners, lefts))


class LaidOut(unittest.TestCase):
    def test_a_tie_with_turns_to_the_left_and_to_the_right(self):
        web = samples.single_tie()
        told = laid_out(web, 0, ([4, 4], [2, 1]))
        self.assertEqual(told, ((5, [(0, 2), (2, 3), (3, 4), (4, 1)], [0, 1, 2, 1]), [0, 0, 0, 0]))
        told = laid_out(web, 0, ([4, 4], [0, 1]))
        self.assertEqual(told, ((3, [(0, 2), (2, 1)], [0, 3]), [0, 0]))
        told = laid_out(web, 0, ([4, 4], [1, 0]))
        self.assertEqual(told, ((3, [(0, 2), (2, 1)], [0, 1]), [0, 0]))
        told = laid_out(web, 0, ([4, 4], [0, 5]))
        heads = [0, 3, 2, 1, 0, 3]
        self.assertEqual(told[0], (7, [(0, 2), (2, 3), (3, 4), (4, 5), (5, 6), (6, 1)], heads))
        told = laid_out((2, [(1, 0)], [[1], [0]]), 0, ([4, 4], [1, 1]))
        self.assertEqual(told, ((4, [(1, 2), (2, 3), (3, 0)], [0, 1, 0]), [0, 0, 0]))

    def test_a_tie_of_a_place_with_itself(self):
        told = laid_out(samples.self_tie(), 1, ([1, 3], [3, 0]))
        self.assertEqual(told, ((4, [(0, 1), (1, 2), (2, 3), (3, 0)], [0, 1, 2, 3]), [0] * 4))
        told = laid_out(samples.self_tie(), 0, ([3, 1], [0, 3]))
        self.assertEqual(told, ((4, [(0, 1), (1, 2), (2, 3), (3, 0)], [0, 3, 2, 1]), [0] * 4))
        told = laid_out(samples.self_tie(), 1, ([2, 2], [4, 0]))
        self.assertEqual(told[0][2], [0, 1, 2, 3, 0])
        told = laid_out(samples.self_tie(), 1, ([3, 1], [6, 1]))
        self.assertEqual(told[0][2], [0, 1, 2, 3, 0, 1, 2, 1])

    def test_ties_without_turns(self):
        told = laid_out(samples.single_tie(), 0, ([4, 4], [0, 0]))
        self.assertEqual(told, ((2, [(0, 1)], [0]), [0]))
        told = laid_out(samples.tree(), 0, ([4, 1, 4, 1, 4, 2], [0] * 6))
        # Behind 1 is 4, by one quarter; behind 3 is 0, by one: so 2 leaves to the north, 4 to the south.
        self.assertEqual(told, ((4, [(0, 1), (0, 2), (0, 3)], [0, 1, 3]), [0, 1, 2]))
        told = laid_out(samples.tree(), 0, ([4, 2, 4, 1, 4, 1], [0] * 6))
        self.assertEqual(told[0][2], [0, 1, 2])
        told = laid_out(samples.tree(), 0, ([4, 1, 4, 2, 4, 1], [0] * 6))
        self.assertEqual(told[0][2], [0, 2, 3])

    def test_a_ring_by_hand(self):
        told = laid_out(samples.ring(), 1, ([1, 3, 2, 3, 1, 2], [0, 0, 0, 0, 2, 0]))
        laid = (5, [(0, 1), (1, 2), (2, 3), (3, 4), (4, 0)], [0, 1, 1, 2, 3])
        self.assertEqual(told, (laid, [0, 1, 2, 2, 2]))
        told = laid_out(samples.ring(), 1, ([1, 3, 1, 3, 1, 3], [1, 0, 0, 0, 0, 0]))
        self.assertEqual(told, ((4, [(0, 3), (3, 1), (1, 2), (2, 0)], [0, 1, 2, 3]), [0, 0, 1, 2]))
        # Turns to both sides at two ties.
        told = laid_out(samples.ring(), 1, ([1, 3, 1, 3, 1, 3], [2, 1, 0, 0, 1, 1]))
        laid = (
            8,
            [(0, 3), (3, 4), (4, 5), (5, 1), (1, 2), (2, 6), (6, 7), (7, 0)],
            [0, 1, 2, 1, 2, 3, 0, 3],
        )
        self.assertEqual(told, (laid, [0, 0, 0, 0, 1, 2, 2, 2]))

    def test_a_tie_that_comes_to_its_place(self):
        # The ties 1 and 3 of the star have their second ends in the midst.
        told = laid_out(samples.star(), 0, ([4, 1, 1, 4, 4, 1, 1, 4], [0] * 8))
        self.assertEqual(told, ((5, [(0, 1), (2, 0), (0, 3), (4, 0)], [0, 3, 2, 1]), [0, 1, 2, 3]))

    def test_right_shapes(self):
        for make, outer, shape in samples.SHAPES:
            for web in samples.rotations(make()):
                self.look_at(web, outer, shape)

    def test_told_shapes(self):
        for seed in range(80):
            web = drawn_map(seed, 2 + seed % 9, 2 + seed % 9 + seed % 3)
            wishes = drawn_wishes(seed, web, 5, None, 0)
            for outer in range(len(lands(web))):
                self.look_at(web, outer, fewest(web, outer, wishes)[1])

    def test_told_shapes_with_turns_to_both_sides(self):
        for seed in range(30):
            web = drawn_map(seed, 4, 5)
            corners, lefts = fewest(web, 0, free_wishes(web))[1]
            more = [(seed + number) % 3 for number in range(5)]
            lefts = [left + more[end // 2] for end, left in enumerate(lefts)]
            self.look_at(web, 0, (corners, lefts))

    def test_thirty_turns(self):
        self.look_at(samples.single_tie(), 0, ([4, 4], [30, 0]))
        self.look_at(samples.single_tie(), 0, ([4, 4], [14, 16]))
        self.look_at(samples.self_tie(), 1, ([1, 3], [16, 13]))

    def look_at(self, web, outer, shape):
        """Holds what is laid out against the words of the point."""
        laid, owners = laid_out(web, outer, shape)
        many, ties, heads = laid
        corners, lefts = shape
        self.assertIsNone(check_laid(laid))
        self.assertEqual(many, web[0] + sum(lefts))
        self.assertEqual(len(owners), len(ties))
        self.assertEqual(owners, sorted(owners))
        self.assertEqual(heads[0], 0)
        told = corners_of(laid)
        outer_land = lands(map_of(laid))[outer_of(laid)]
        turn = web[0]
        for tie, (a, b) in enumerate(web[1]):
            pieces = [piece for piece, owner in enumerate(owners) if owner == tie]
            count = lefts[2 * tie] + lefts[2 * tie + 1]
            self.assertEqual(len(pieces), count + 1)
            stops = [a] + list(range(turn, turn + count)) + [b]
            turn += count
            self.assertEqual([ties[piece] for piece in pieces], list(zip(stops, stops[1:])))
            self.assertEqual(told[2 * pieces[-1]], corners[2 * tie])
            self.assertEqual(told[2 * pieces[0] + 1], corners[2 * tie + 1])
            for place, (piece, onward) in enumerate(zip(pieces, pieces[1:])):
                left = place < lefts[2 * tie]
                self.assertEqual(told[2 * piece], 1 if left else 3)
                self.assertEqual(told[2 * onward + 1], 3 if left else 1)
            for piece in pieces:
                for side in range(2):
                    old = 2 * tie + side in lands(web)[outer]
                    self.assertIs(2 * piece + side in outer_land, old)


class AskersOwn(unittest.TestCase):
    def test_new_lists(self):
        for make in RIGHT:
            samples.held(self, map_of, lambda: (make(),))
            samples.held(self, corners_of, lambda: (make(),))
        for make, outer, shape in samples.SHAPES:
            samples.held(self, laid_out, lambda: (make(), outer, (list(shape[0]), list(shape[1]))))

    def test_check_laid_and_outer_of_change_nothing(self):
        for make in RIGHT:
            laid = make()
            for _ in range(2):
                check_laid(laid)
                outer_of(laid)
            self.assertEqual(laid, make())


if __name__ == "__main__":
    unittest.main()
