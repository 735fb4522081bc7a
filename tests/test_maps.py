import itertools
import unittest

from fewbends.errors import NoMap
from fewbends.maps import behind, check_map, is_flat, land_of, lands
from tests import samples

# Worked out by hand: the lands of each map, flat or not.
LANDS = [
    (samples.single_tie, [[0, 1]]),
    (samples.self_tie, [[0], [1]]),
    (samples.ring, [[0, 2, 4], [1, 5, 3]]),
    (samples.tree, [[0, 1, 4, 5, 2, 3]]),
    (samples.two_ties, [[0, 3], [1, 2]]),
    (samples.three_ties, [[0, 3], [1, 4], [2, 5]]),
    (samples.star, [[0, 1, 7, 6, 4, 5, 3, 2]]),
    (samples.side_loops, [[0], [1, 3], [2]]),
    (samples.nested_loops, [[0, 3], [1], [2]]),
    (samples.crossing_loops, [[0, 2, 1, 3]]),
    (samples.twisted_ties, [[0, 5, 2, 1, 4, 3]]),
    (samples.flag, [[0, 2, 8, 9, 4], [1, 7, 5, 3], [6]]),
]


class CheckMap(unittest.TestCase):
    def refused(self, web):
        with self.assertRaises(NoMap):
            check_map(web)

    def test_ordinary_maps_are_let_by(self):
        for make in samples.FLAT + samples.NOT_FLAT:
            with self.subTest(make.__name__):
                self.assertIsNone(check_map(make()))

    def test_orders_may_begin_anywhere(self):
        for web in samples.rotations(samples.flag()):
            self.assertIsNone(check_map(web))

    def test_no_place(self):
        self.refused((0, [], []))
        self.refused((0, [(0, 0)], []))
        self.refused((0, [(0, 1)], [[0], [1]]))
        self.refused((-1, [(0, 1)], [[0], [1]]))
        self.refused((-2, [], []))

    def test_no_tie(self):
        self.refused((1, [], [[]]))
        self.refused((2, [], [[], []]))
        self.refused((1, [], []))

    def test_a_tie_to_what_is_no_place(self):
        self.refused((2, [(0, 2)], [[0], [1]]))
        self.refused((2, [(2, 0)], [[1], [0]]))
        self.refused((2, [(0, 1), (1, 2)], [[0], [1, 2]]))
        self.refused((1, [(0, 1)], [[0, 1]]))
        self.refused((2, [(0, 10 ** 30)], [[0], [1]]))

    def test_a_tie_to_what_is_below_nought(self):
        # Counted from the back these would be the places that the orders tell.
        self.refused((2, [(0, -1)], [[0], [1]]))
        self.refused((2, [(-2, 1)], [[0], [1]]))
        self.refused((1, [(0, -1)], [[0, 1]]))
        self.refused((2, [(0, -(10 ** 30))], [[0], [1]]))

    def test_an_end_left_out(self):
        self.refused((2, [(0, 1)], [[0], []]))
        self.refused((1, [(0, 0)], [[0]]))
        self.refused((2, [(0, 1), (0, 1)], [[0, 2], [1]]))

    def test_an_end_told_twice(self):
        self.refused((2, [(0, 1)], [[0, 0], [1]]))
        self.refused((1, [(0, 0)], [[0, 1, 0]]))
        self.refused((1, [(0, 0)], [[0, 0]]))
        self.refused((2, [(0, 1), (0, 1)], [[0, 0], [1, 3]]))

    def test_an_end_at_another_places_order(self):
        self.refused((2, [(0, 1)], [[1], [0]]))
        self.refused((2, [(0, 1)], [[0, 1], []]))
        self.refused((2, [(0, 1)], [[0, 1], [1]]))
        self.refused((2, [(0, 1), (0, 1)], [[0, 3], [1, 2]]))

    def test_an_end_that_no_tie_has(self):
        self.refused((2, [(0, 1)], [[0, 2], [1]]))
        self.refused((2, [(0, 1)], [[0], [3]]))
        self.refused((2, [(0, 1)], [[0], [-1]]))
        self.refused((2, [(0, 1)], [[0], [1, -1]]))
        self.refused((2, [(0, 1)], [[0], [10 ** 30]]))

    def test_an_order_more_or_fewer(self):
        self.refused((2, [(0, 1)], [[0]]))
        self.refused((2, [(0, 1)], []))
        self.refused((2, [(0, 1)], [[0], [1], []]))
        self.refused((1, [(0, 0)], [[0, 1], []]))
        self.refused((1, [(0, 0)], []))

    def test_four_ends_at_a_place_and_no_more(self):
        for many, taken in [(4, True), (5, False)]:
            ties = [(0, leaf) for leaf in range(1, many + 1)]
            web = samples.with_some_orders(many + 1, ties)
            if taken:
                self.assertIsNone(check_map(web))
            else:
                self.refused(web)

    def test_three_ties_of_a_place_with_itself_are_six_ends(self):
        self.refused((1, [(0, 0)] * 3, [[0, 1, 2, 3, 4, 5]]))

    def test_a_place_without_an_end_beside_others(self):
        self.refused((3, [(0, 1)], [[0], [1], []]))
        self.refused((3, [(1, 2)], [[], [0], [1]]))
        self.refused((2, [(0, 0)], [[0, 1], []]))
        self.refused((2, [(1, 1)], [[], [0, 1]]))

    def test_places_that_dont_hang_together(self):
        self.refused((4, [(0, 1), (2, 3)], [[0], [1], [2], [3]]))
        self.refused((2, [(0, 0), (1, 1)], [[0, 1], [2, 3]]))
        self.refused((4, [(0, 2), (3, 1), (2, 0)], [[0, 5], [3], [1, 4], [2]]))

    def test_the_way_that_a_tie_is_told_is_of_no_matter_to_hanging_together(self):
        self.assertIsNone(check_map((3, [(1, 0), (2, 1)], [[1], [0, 3], [2]])))
        self.assertIsNone(check_map((3, [(2, 1), (2, 0)], [[3], [1], [0, 2]])))

    def test_two_hundred_places_and_no_more(self):
        for many in [199, 200]:
            self.assertIsNone(check_map(samples.long_ring(many, 0)))
            self.assertIsNone(check_map(long_path(many)))
        for many in [201, 202, 1000]:
            self.refused(samples.long_ring(many, 0))
            self.refused(long_path(many))

    def test_four_hundred_ties_and_no_more(self):
        self.assertIsNone(check_map(samples.long_ring(200, 199)))
        self.assertIsNone(check_map(samples.long_ring(200, 200)))
        ring = samples.long_ring(200, 200)
        self.refused(samples.with_some_orders(200, ring[1] + [(0, 0)]))
        self.refused(samples.long_ring(201, 200))
        self.refused(samples.long_ring(201, 201))

    def test_all_small_tellings_by_the_words_of_the_point(self):
        for many, ties, orders in small_tellings():
            try:
                check_map((many, ties, orders))
                taken = True
            except NoMap:
                taken = False
            self.assertEqual(taken, by_the_words(many, ties, orders), (many, ties, orders))


def long_path(many):
    return samples.with_some_orders(many, [(place, place + 1) for place in range(many - 1)])


def small_tellings():
    """Right and wrong ones: two places or one, a tie or two, ends strewn over the orders."""
    pairs = list(itertools.product([-1, 0, 1, 2], repeat=2))
    some_orders = [[], [0], [1], [2], [0, 1], [1, 0], [0, 2], [3, 1], [2, 3, 1], [0, 2, 1, 3]]
    for many in [1, 2]:
        for count in [1, 2]:
            for ties in itertools.product(pairs, repeat=count):
                for orders in itertools.product(some_orders, repeat=many):
                    yield (many, list(ties), [list(order) for order in orders])


def by_the_words(many, ties, orders):
    places = range(many)
    if not all(a in places and b in places for a, b in ties):
        return False
    at = {(place, end) for end, place in enumerate(itertools.chain(*ties))}
    told = [(place, end) for place, order in enumerate(orders) for end in order]
    return (
        set(told) == at
        and len(told) == len(at)
        and all(len(order) <= 4 for order in orders)
        and samples.is_joined(many, ties)
    )


class Lands(unittest.TestCase):
    def test_lands_told_by_hand(self):
        for make, told in LANDS:
            with self.subTest(make.__name__):
                self.assertEqual(lands(make()), told)

    def test_behind_told_by_hand(self):
        for make, told in LANDS:
            for land in told:
                for k, end in enumerate(land):
                    with self.subTest(make.__name__, end=end):
                        self.assertEqual(behind(make(), end), land[(k + 1) % len(land)])

    def test_an_end_alone_at_its_place_is_behind_the_one_that_comes_to_it(self):
        self.assertEqual(behind(samples.single_tie(), 0), 1)
        self.assertEqual(behind(samples.single_tie(), 1), 0)
        self.assertEqual(behind(samples.tree(), 4), 5)

    def test_behind_is_just_ahead_of_the_other_end(self):
        web = samples.star()
        self.assertEqual(behind(web, 2), 0)
        self.assertEqual(behind(web, 5), 3)
        self.assertEqual(behind(web, 6), 4)

    def test_behind_is_the_last_one_where_the_other_end_stands_first(self):
        self.assertEqual(behind(samples.star(), 1), 7)
        self.assertEqual(behind(samples.tree(), 1), 4)

    def test_land_of_told_by_hand(self):
        for make, told in LANDS:
            for number, land in enumerate(told):
                for end in land:
                    with self.subTest(make.__name__, end=end):
                        self.assertEqual(land_of(make(), end), number)

    def test_orders_begun_elsewhere_have_the_same_lands(self):
        for make, told in LANDS:
            for web in samples.rotations(make()):
                self.assertEqual(lands(web), told)
                for number, land in enumerate(told):
                    for k, end in enumerate(land):
                        self.assertEqual(behind(web, end), land[(k + 1) % len(land)])
                        self.assertEqual(land_of(web, end), number)

    def test_what_is_flat(self):
        for make in samples.FLAT:
            with self.subTest(make.__name__):
                self.assertIs(is_flat(make()), True)

    def test_what_is_not_flat(self):
        for make in samples.NOT_FLAT:
            with self.subTest(make.__name__):
                self.assertIs(is_flat(make()), False)

    def test_all_small_maps_by_the_words_of_the_point(self):
        for web in samples.small_maps():
            self.assertIsNone(check_map(web))
            told = lands(web)
            self.assertEqual(sorted(sum(told, [])), list(range(2 * len(web[1]))))
            self.assertEqual([land[0] for land in told], [min(land) for land in told])
            self.assertEqual(told, sorted(told, key=lambda land: land[0]))
            for number, land in enumerate(told):
                for k, end in enumerate(land):
                    self.assertEqual(land[(k + 1) % len(land)], behind_by_the_words(web, end))
                    self.assertEqual(behind(web, end), behind_by_the_words(web, end))
                    self.assertEqual(land_of(web, end), number)
            self.assertIs(is_flat(web), web[0] + len(told) - len(web[1]) == 2)

    def test_the_greatest_maps(self):
        web = samples.long_ring(200, 0)
        self.assertEqual(lands(web)[0], list(range(0, 400, 2)))
        self.assertEqual(lands(web)[1], [1] + list(range(399, 2, -2)))
        self.assertTrue(is_flat(web))
        self.assertEqual(land_of(web, 399), 1)
        doubled = samples.long_ring(200, 200)
        self.assertEqual(sorted(sum(lands(doubled), [])), list(range(800)))

    def test_a_map_beyond_the_bounds_of_check_map_has_its_lands_too(self):
        self.assertEqual(len(lands(samples.long_ring(700, 0))), 2)
        self.assertTrue(is_flat(samples.long_ring(700, 0)))


def behind_by_the_words(web, end):
    many, ties, orders = web
    other = end + 1 if end % 2 == 0 else end - 1
    place = ties[other // 2][other % 2]
    order = orders[place]
    return (order[-1:] + order)[order.index(other)]


class AskersOwn(unittest.TestCase):
    def test_nothing_handed_in_is_changed(self):
        for make in samples.FLAT + samples.NOT_FLAT:
            web = make()
            check_map(web)
            behind(web, 1)
            lands(web)
            land_of(web, 1)
            is_flat(web)
            self.assertEqual(web, make())

    def test_what_is_refused_is_not_changed(self):
        web = (2, [(0, 1), (0, 1)], [[2, 0], [3, 1, 1]])
        with self.assertRaises(NoMap):
            check_map(web)
        self.assertEqual(web, (2, [(0, 1), (0, 1)], [[2, 0], [3, 1, 1]]))

    def test_lands_are_new_lists_at_every_depth(self):
        for make, told in LANDS:
            web = make()
            handed = {id(part) for part in samples.lists_within(web)}
            answer = lands(web)
            own = [id(part) for part in samples.lists_within(answer)]
            self.assertEqual(len(own), len(set(own)))
            self.assertFalse(handed & set(own))
            samples.wreck(answer)
            self.assertEqual(web, make())
            self.assertEqual(lands(web), told)

    def test_what_is_done_later_with_the_map_changes_no_answer(self):
        for make, told in LANDS:
            web = make()
            answer = lands(web)
            samples.wreck(web)
            self.assertEqual(answer, told)

    def test_the_same_answer_to_the_same_asking(self):
        for make in samples.FLAT + samples.NOT_FLAT:
            self.assertEqual(lands(make()), lands(make()))


if __name__ == "__main__":
    unittest.main()
