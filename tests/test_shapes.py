import itertools
import unittest

from fewbends.maps import check_map, is_flat, lands
from fewbends.shapes import is_shape, mirrored, shortened, turns
from tests import samples


def copy_of(shape):
    return (list(shape[0]), list(shape[1]))


def with_corner(shape, end, corner):
    corners, lefts = copy_of(shape)
    corners[end] = corner
    return (corners, lefts)


def with_lefts(shape, end, left):
    corners, lefts = copy_of(shape)
    lefts[end] = left
    return (corners, lefts)


class IsShape(unittest.TestCase):
    def test_right_shapes(self):
        for make, outer, shape in samples.SHAPES:
            with self.subTest(make.__name__, outer=outer):
                self.assertIs(is_shape(make(), outer, copy_of(shape)), True)

    def test_each_land_of_each_flat_map_is_outer_in_some_shape(self):
        shown = {(make, outer) for make, outer, shape in samples.SHAPES}
        for make in samples.FLAT:
            for outer in range(len(lands(make()))):
                self.assertIn((make, outer), shown)

    def test_orders_may_begin_anywhere(self):
        for make, outer, shape in samples.SHAPES:
            for web in samples.rotations(make()):
                self.assertIs(is_shape(web, outer, copy_of(shape)), True)

    def test_another_land_as_the_outer_one(self):
        for make, outer, shape in samples.SHAPES:
            for other in range(len(lands(make()))):
                if other != outer:
                    with self.subTest(make.__name__, outer=outer, other=other):
                        self.assertIs(is_shape(make(), other, shape), False)

    def test_a_number_more_or_fewer(self):
        for make, outer, (corners, lefts) in samples.SHAPES:
            with self.subTest(make.__name__, outer=outer):
                for wrong in [corners[:-1], corners + [1], corners + [0], corners + [4]]:
                    self.assertIs(is_shape(make(), outer, (wrong, lefts)), False)
                for wrong in [lefts[:-1], lefts + [0], lefts + [1]]:
                    self.assertIs(is_shape(make(), outer, (corners, wrong)), False)
                self.assertIs(is_shape(make(), outer, (corners[:-1], lefts[:-1])), False)
                self.assertIs(is_shape(make(), outer, (corners[:-2], lefts[:-2])), False)
                self.assertIs(is_shape(make(), outer, (corners + [1], lefts + [0])), False)
                self.assertIs(is_shape(make(), outer, (corners + [2, 2], lefts + [0, 0])), False)

    def test_empty_lists(self):
        for make, outer, (corners, lefts) in samples.SHAPES:
            self.assertIs(is_shape(make(), outer, ([], [])), False)
            self.assertIs(is_shape(make(), outer, ([], lefts)), False)
            self.assertIs(is_shape(make(), outer, (corners, [])), False)

    def test_corners_that_are_none(self):
        for make, outer, shape in samples.SHAPES:
            for end in range(len(shape[0])):
                for corner in [0, 5, -1, -(10 ** 30), 10 ** 30]:
                    wrong = with_corner(shape, end, corner)
                    self.assertIs(is_shape(make(), outer, wrong), False)

    def test_a_corner_of_nought_or_five_whose_sums_are_right(self):
        # The sums alone would let these by.
        self.assertIs(is_shape(samples.self_tie(), 1, ([4, 0], [6, 0])), False)
        self.assertIs(is_shape(samples.self_tie(), 0, ([0, 4], [0, 6])), False)
        self.assertIs(is_shape(samples.self_tie(), 1, ([5, -1], [7, 0])), False)
        self.assertIs(is_shape(samples.tree(), 0, ([4, 0, 4, 2, 4, 2], [0] * 6)), False)
        self.assertIs(is_shape(samples.tree(), 0, ([4, 5, 4, 1, 4, -2], [0] * 6)), False)
        self.assertIs(is_shape(samples.tree(), 0, ([4, 4, 4, 0, 4, 0], [0] * 6)), False)

    def test_lefts_below_nought_whose_sums_are_right(self):
        self.assertIs(is_shape(samples.single_tie(), 0, ([4, 4], [-1, -1])), False)
        self.assertIs(is_shape(samples.single_tie(), 0, ([4, 4], [-1, 0])), False)
        self.assertIs(is_shape(samples.self_tie(), 0, ([3, 1], [-1, 2])), False)
        self.assertIs(is_shape(samples.self_tie(), 1, ([1, 3], [2, -1])), False)

    def test_corners_at_a_place_that_dont_come_to_four(self):
        # Two corners of one land are changed about: the sums of the lands stay right.
        right = ([1, 3, 2, 3, 1, 2], [0, 0, 0, 0, 2, 0])
        wrong = ([2, 3, 1, 3, 1, 2], [0, 0, 0, 0, 2, 0])
        self.assertIs(is_shape(samples.ring(), 1, right), True)
        self.assertIs(is_shape(samples.ring(), 1, wrong), False)
        right = ([4, 1, 4, 1, 4, 2], [0] * 6)
        wrong = ([1, 4, 4, 1, 4, 2], [0] * 6)
        self.assertIs(is_shape(samples.tree(), 0, right), True)
        self.assertIs(is_shape(samples.tree(), 0, wrong), False)

    def test_a_corner_that_is_off_alone(self):
        for make, outer, shape in samples.SHAPES:
            for end, was in enumerate(shape[0]):
                for corner in [1, 2, 3, 4]:
                    other = with_corner(shape, end, corner)
                    self.assertIs(is_shape(make(), outer, other), corner == was)

    def test_sums_that_are_off(self):
        for make, outer, shape in samples.SHAPES:
            for end in range(len(shape[1])):
                for more in [1, 2, 8]:
                    other = with_lefts(shape, end, shape[1][end] + more)
                    # Where one land is at both sides of a tie its turns are of no matter.
                    self.assertIs(is_shape(make(), outer, other), same_land(make(), end))

    def test_the_outer_lands_sum_is_off_by_eight(self):
        self.assertIs(is_shape(samples.self_tie(), 1, ([2, 2], [4, 0])), True)
        self.assertIs(is_shape(samples.self_tie(), 0, ([2, 2], [4, 0])), False)
        self.assertIs(is_shape(samples.single_tie(), 0, ([1, 1], [0, 0])), False)

    def test_turns_to_both_sides_are_counted_against_each_other(self):
        for make, outer, shape in samples.SHAPES:
            corners, lefts = shape
            for tie in range(len(lefts) // 2):
                more = list(lefts)
                more[2 * tie] += 10 ** 20
                more[2 * tie + 1] += 10 ** 20
                self.assertIs(is_shape(make(), outer, (corners, more)), True)

    def test_all_small_shapes_by_the_words_of_the_point(self):
        for make in [samples.self_tie, samples.single_tie]:
            for numbers in itertools.product(range(6), range(6), range(-1, 8), range(-1, 8)):
                shape = (list(numbers[:2]), list(numbers[2:]))
                for outer in range(len(lands(make()))):
                    told = is_shape(make(), outer, shape)
                    self.assertIs(told, by_the_words(make(), outer, shape), (make, outer, shape))

    def test_small_shapes_of_two_ties_by_the_words_of_the_point(self):
        for make in [samples.two_ties, samples.side_loops]:
            for corners in itertools.product([1, 2, 3], repeat=4):
                for lefts in itertools.product([0, 2, 3, 5], repeat=4):
                    shape = (list(corners), list(lefts))
                    for outer in range(len(lands(make()))):
                        told = is_shape(make(), outer, shape)
                        self.assertIs(told, by_the_words(make(), outer, shape), (make, outer, shape))

    def test_the_greatest_maps(self):
        web = samples.long_ring(200, 0)
        corners = [2] * 400
        lefts = [4] + [0] * 399
        self.assertIs(is_shape(web, 1, (corners, lefts)), True)
        self.assertIs(is_shape(web, 0, (corners, lefts)), False)
        self.assertIs(is_shape(web, 0, (corners, [0] * 399 + [4])), True)
        self.assertIs(is_shape(web, 1, (corners, [0] * 399 + [4])), False)
        self.assertIs(is_shape(web, 1, (corners, [4] + [0] * 400)), False)


def same_land(web, end):
    return any(end in land and end ^ 1 in land for land in lands(web))


def by_the_words(web, outer, shape):
    many, ties, orders = web
    corners, lefts = shape
    if not all(1 <= corner <= 4 for corner in corners) or not all(left >= 0 for left in lefts):
        return False
    for place in range(many):
        leading = [corners[2 * t] for t, tie in enumerate(ties) if tie[1] == place]
        leading += [corners[2 * t + 1] for t, tie in enumerate(ties) if tie[0] == place]
        if sum(leading) != 4:
            return False
    for number, land in enumerate(lands(web)):
        total = sum(2 - corners[end] for end in land)
        for end in land:
            total += lefts[end] - lefts[end + 1 if end % 2 == 0 else end - 1]
        if total != (-4 if number == outer else 4):
            return False
    return True


class TurnsAndShortened(unittest.TestCase):
    def test_turns(self):
        self.assertEqual(turns(([4, 4], [0, 0])), [0])
        self.assertEqual(turns(([4, 4], [3, 1])), [4])
        self.assertEqual(turns(([1, 3, 2, 3, 1, 2], [0, 1, 2, 0, 2, 5])), [1, 2, 7])

    def test_turns_look_at_the_numbers_alone(self):
        self.assertEqual(turns(([0, 9, 0, 0], [1, 2, 3, 4])), [3, 7])
        self.assertEqual(turns(([10 ** 30, 0], [10 ** 40, 1])), [10 ** 40 + 1])

    def test_turns_of_many_ties(self):
        lefts = list(range(800))
        self.assertEqual(turns(([1] * 800, lefts)), [4 * tie + 1 for tie in range(400)])

    def test_shortened(self):
        self.assertEqual(shortened(([4, 4], [3, 1])), ([4, 4], [2, 0]))
        self.assertEqual(shortened(([4, 4], [1, 3])), ([4, 4], [0, 2]))
        self.assertEqual(shortened(([4, 4], [3, 3])), ([4, 4], [0, 0]))
        shape = ([1, 3, 2, 3, 1, 2], [4, 1, 0, 0, 2, 5])
        self.assertEqual(shortened(shape), ([1, 3, 2, 3, 1, 2], [3, 0, 0, 0, 0, 3]))

    def test_shortened_looks_at_the_numbers_alone(self):
        great = 10 ** 40
        self.assertEqual(shortened(([0, 9], [great, great + 7])), ([0, 9], [0, 7]))
        self.assertEqual(shortened(([7, 0, 0, 8], [0, 1, 5, 2])), ([7, 0, 0, 8], [0, 1, 3, 0]))

    def test_a_shortened_shape_is_one_where_that_changes_nothing(self):
        for make, outer, shape in samples.SHAPES:
            once = shortened(shape)
            self.assertEqual(shortened(once), once)
            if all(min(pair) == 0 for pair in zip(shape[1][::2], shape[1][1::2])):
                self.assertEqual(once, shape)

    def test_what_is_shortened_is_a_shape(self):
        for make, outer, shape in samples.SHAPES:
            self.assertIs(is_shape(make(), outer, shortened(shape)), True)

    def test_answers_are_tuples_of_lists(self):
        told = shortened(([4, 4], [3, 1]))
        self.assertIs(type(told), tuple)
        self.assertEqual([type(part) for part in told], [list, list])
        self.assertIs(type(turns(([4, 4], [3, 1]))), list)


class Mirrored(unittest.TestCase):
    def test_a_ring_told_by_hand(self):
        shape = ([1, 3, 2, 3, 1, 2], [0, 0, 0, 0, 2, 0])
        web, outer, told = mirrored(samples.ring(), 1, shape)
        self.assertEqual(web, (3, [(0, 1), (1, 2), (2, 0)], [[5, 0], [1, 2], [3, 4]]))
        self.assertEqual(outer, 0)
        self.assertEqual(told, ([3, 1, 2, 1, 3, 2], [0, 0, 0, 0, 0, 2]))

    def test_three_ties_told_by_hand(self):
        shape = ([1, 2, 1, 1, 2, 1], [2, 0, 0, 0, 0, 2])
        web, outer, told = mirrored(samples.three_ties(), 1, shape)
        self.assertEqual(web, (2, [(0, 1)] * 3, [[4, 2, 0], [1, 3, 5]]))
        self.assertEqual(outer, 0)
        self.assertEqual(told, ([2, 1, 1, 1, 1, 2], [0, 2, 0, 0, 2, 0]))

    def test_the_outer_lands_number_told_by_hand(self):
        # The lands [0, 3], [1, 4], [2, 5] become [1, 2], [0, 5], [3, 4].
        told = [
            mirrored(make(), outer, shape)[1]
            for make, outer, shape in samples.SHAPES if make == samples.three_ties
        ]
        self.assertEqual(told, [1, 0, 2])

    def test_a_tree_told_by_hand(self):
        shape = ([4, 1, 4, 1, 4, 2], [0, 1, 2, 3, 4, 4])
        web, outer, told = mirrored(samples.tree(), 0, shape)
        self.assertEqual(web, (4, [(0, 1), (0, 2), (0, 3)], [[4, 2, 0], [1], [3], [5]]))
        self.assertEqual(outer, 0)
        # Behind 1 is 4, behind 3 is 0, behind 5 is 2.
        self.assertEqual(told, ([4, 1, 4, 2, 4, 1], [1, 0, 3, 2, 4, 4]))

    def test_a_tie_of_a_place_with_itself_told_by_hand(self):
        told = mirrored(samples.self_tie(), 0, ([3, 1], [0, 3]))
        self.assertEqual(told, ((1, [(0, 0)], [[1, 0]]), 1, ([1, 3], [3, 0])))

    def test_mirrored_twice_it_is_what_it_was(self):
        for make, outer, shape in samples.SHAPES:
            for web in samples.rotations(make()):
                once = mirrored(web, outer, shape)
                self.assertEqual(mirrored(once[0], once[1], once[2]), (web, outer, shape))

    def test_what_is_mirrored_is_a_shape_of_a_flat_map(self):
        for make, outer, shape in samples.SHAPES:
            for web in samples.rotations(make()):
                new_web, new_outer, new_shape = mirrored(web, outer, shape)
                self.assertIsNone(check_map(new_web))
                self.assertIs(is_flat(new_web), True)
                self.assertIs(is_shape(new_web, new_outer, new_shape), True)
                self.assertEqual(turns(new_shape), turns(shape))

    def test_the_outer_land_has_the_other_ends(self):
        for make, outer, shape in samples.SHAPES:
            web, new_outer, told = mirrored(make(), outer, shape)
            others = sorted(end ^ 1 for end in lands(make())[outer])
            self.assertEqual(sorted(lands(web)[new_outer]), others)

    def test_answers_are_tuples_of_the_right_kinds(self):
        web, outer, shape = mirrored(samples.ring(), 1, ([1, 3, 2, 3, 1, 2], [0, 0, 0, 0, 2, 0]))
        self.assertEqual([type(part) for part in web], [int, list, list])
        self.assertEqual([type(tie) for tie in web[1]], [tuple, tuple, tuple])
        self.assertIs(type(outer), int)
        self.assertEqual([type(part) for part in shape], [list, list])


class AskersOwn(unittest.TestCase):
    def test_turns_shortened_and_mirrored_tell_new_lists(self):
        for make, outer, shape in samples.SHAPES:
            with self.subTest(make.__name__, outer=outer):
                samples.held(self, turns, lambda: (copy_of(shape),))
                samples.held(self, shortened, lambda: (copy_of(shape),))
                samples.held(self, mirrored, lambda: (make(), outer, copy_of(shape)))

    def test_is_shape_changes_nothing(self):
        for make, outer, shape in samples.SHAPES:
            web = make()
            handed = copy_of(shape)
            self.assertEqual(is_shape(web, outer, handed), is_shape(web, outer, handed))
            is_shape(web, outer, (handed[1], handed[0]))
            self.assertEqual((web, handed), (make(), shape))


if __name__ == "__main__":
    unittest.main()
