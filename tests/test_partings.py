import itertools
import random
import unittest

from fewbends.errors import NoLaid
from fewbends.laid import check_laid, corners_of, laid_out, map_of, outer_of
from fewbends.maps import lands
from fewbends.partings import is_parting, parted
from tests import samples
from tests.samples import framed_hook, framed_line, framed_square, headed, hook, line, square


def by_the_words(laid, parting):
    """What point 19 asks, said otherwise than the program says it."""
    whole, pieces = parting
    try:
        check_laid(whole)
    except NoLaid:
        return False
    if len(pieces) != len(whole[1]) or not set(pieces) <= set(range(-2, len(laid[1]))):
        return False
    inner = []
    for number, tie in enumerate(laid[1]):
        row = [whole[1][k] for k, piece in enumerate(pieces) if piece == number]
        if {whole[2][k] for k, piece in enumerate(pieces) if piece == number} != {laid[2][number]}:
            return False
        place = tie[0]
        while row:
            onward = [step for step in row if step[0] == place]
            if not onward:
                return False
            row.remove(onward[0])
            place = onward[0][1]
            inner.append(place)
        if place != tie[1]:
            return False
        inner.pop()
    if len(set(inner)) < len(inner) or min(inner, default=laid[0]) < laid[0]:
        return False
    corners = corners_of(whole)
    for number, land in enumerate(lands(map_of(whole))):
        here = [corners[end] for end in land]
        apart = 3 if number == outer_of(whole) else 1
        if here.count(apart) != 4 or here.count(2) != len(here) - 4:
            return False
    outside = lands(map_of(whole))[outer_of(whole)]
    for k, piece in enumerate(pieces):
        if (outside.count(2 * k) + outside.count(2 * k + 1) == 1) != (piece == -2):
            return False
    return all(pieces[end // 2] == -2 for end in outside)


class Judged(unittest.TestCase):
    def right(self, laid, parting):
        self.assertIs(is_parting(laid, parting), True)
        self.assertIs(by_the_words(laid, parting), True)

    def wrong(self, laid, parting):
        self.assertIs(is_parting(laid, parting), False)


class ByHand(Judged):
    def test_right_ones(self):
        for make, make_parting in samples.HAND_PARTINGS:
            self.right(make(), make_parting())

    def test_of_another_map(self):
        for make, make_parting in samples.HAND_PARTINGS:
            for other, _ in samples.HAND_PARTINGS:
                if other != make:
                    self.wrong(other(), make_parting())

    def test_handed_in_otherwise(self):
        for make, make_parting in samples.HAND_PARTINGS:
            for seed in range(10):
                for laid, parting in samples.otherwise(seed, make(), make_parting()):
                    self.right(laid, parting)

    def test_the_frame_may_be_further_off(self):
        # A cut beside the line, and one that ends nowhere at the map.
        spots = [(2, 2), (3, 2), (5, 2), (0, 2), (5, 0), (5, 4), (0, 4), (0, 0), (0, 1), (5, 1)]
        ties = [(0, 1), (1, 2), (3, 0), (2, 5), (5, 6), (6, 3), (3, 8), (8, 7), (7, 4), (4, 9), (9, 2), (9, 8)]
        self.right(line(), (headed(spots, ties), [0, -1, -1] + [-2] * 8 + [-1]))

    def test_a_tie_of_three_pieces(self):
        spots = [(1, 1), (4, 1), (3, 1), (2, 1), (0, 1), (5, 1), (5, 2), (2, 2), (0, 2), (0, 0), (3, 0), (5, 0)]
        ties = [(3, 2), (2, 1), (0, 3), (4, 0), (5, 1), (7, 3), (10, 2)]
        ties += [(5, 6), (6, 7), (7, 8), (8, 4), (4, 9), (9, 10), (10, 11), (11, 5)]
        self.right(line(), (headed(spots, ties), [0, 0, 0] + [-1] * 4 + [-2] * 8))

    def test_pieces_stand_in_any_order(self):
        (many, ties, heads), pieces = framed_hook()
        for shift in range(len(ties)):
            laid = (many, ties[shift:] + ties[:shift], heads[shift:] + heads[:shift])
            self.right(hook(), (laid, pieces[shift:] + pieces[:shift]))
            laid = (many, laid[1][::-1], laid[2][::-1])
            self.right(hook(), (laid, (pieces[shift:] + pieces[:shift])[::-1]))

    def test_cuts_and_frame_either_way_about(self):
        for make, make_parting in samples.HAND_PARTINGS:
            whole, pieces = make_parting()
            for number, piece in enumerate(pieces):
                turned = (samples.turned_about(whole, [number]), pieces)
                if piece < 0:
                    self.right(make(), turned)
                else:
                    self.wrong(make(), turned)


class Wanting(Judged):
    def test_no_laid_out_map(self):
        for make, make_parting in samples.HAND_PARTINGS:
            (many, ties, heads), pieces = make_parting()
            self.wrong(make(), ((many + 1, ties, heads), pieces))
            self.wrong(make(), ((many - 1, ties, heads), pieces))
            self.wrong(make(), ((many, ties, heads[:-1]), pieces))
            self.wrong(make(), ((many, ties, heads + [0]), pieces))
            self.wrong(make(), ((many, ties[:-1], heads[:-1]), pieces))
            self.wrong(make(), ((0, [], []), []))
            self.wrong(make(), ((many, [], []), pieces))
            self.wrong(make(), ((10 ** 39, ties, heads), pieces))
            self.wrong(make(), ((-1, ties, heads), pieces))
            for number, (a, b) in enumerate(ties):
                for head in [heads[number] + 4, (heads[number] + 2) % 4, -1]:
                    self.wrong(make(), ((many, ties, heads[:number] + [head] + heads[number + 1:]), pieces))
                for tie in [(b, a), (a, many), (-1, b), (a, a)]:
                    self.wrong(make(), ((many, ties[:number] + [tie] + ties[number + 1:], heads), pieces))

    def test_a_list_of_another_length(self):
        for make, make_parting in samples.HAND_PARTINGS:
            whole, pieces = make_parting()
            for other in [[], pieces[:-1], pieces[1:], pieces + [-1], pieces + [-2], pieces + [0], pieces * 2]:
                self.wrong(make(), (whole, other))

    def test_fewer_places(self):
        # The line's parting has eight places, this one nine.
        path = (9, [(place, place + 1) for place in range(8)], [0] * 8)
        self.wrong(path, framed_line())
        self.wrong(samples.grid(5, 5), framed_square())

    def test_another_heading(self):
        for make, make_parting in samples.HAND_PARTINGS:
            for more in [1, 2, 3]:
                self.wrong(samples.turned(make(), more), make_parting())
            self.wrong(samples.flipped(make()), make_parting())
        # Places and pieces are right; only the first one heads elsewhere there.
        many, ties, heads = hook()
        self.wrong((many, ties, [0, 1, 2]), framed_hook())
        self.wrong((many, ties, [0, 3, 0]), framed_hook())
        self.wrong((2, [(1, 0)], [0]), framed_line())
        self.wrong((2, [(1, 0)], [2]), framed_line())

    def test_a_tie_without_pieces(self):
        for make, make_parting in samples.HAND_PARTINGS:
            whole, pieces = make_parting()
            for tie in range(len(make()[1])):
                for other in [-1, -2]:
                    self.wrong(make(), (whole, [other if piece == tie else piece for piece in pieces]))
        # The first one has a tie more, from 1 to the north.
        self.wrong((3, [(0, 1), (1, 2)], [0, 1]), framed_line())

    def test_a_tie_without_pieces_that_would_be_of_no_length(self):
        # The first tie leads from the place 0 on, and there are just two places.
        self.wrong((3, [(0, 1), (2, 0)], [0, 0]), framed_line())

    def test_pieces_that_dont_lead_from_one_place_to_the_other(self):
        whole, pieces = framed_hook()
        # The ties 0 and 1 of it are the second and the first piece of the hook's tie 0.
        self.wrong(hook(), (whole, [-1] + pieces[1:]))
        self.wrong(hook(), (whole, [0, -1] + pieces[2:]))
        # The cut from 1 to the east, too; then the tie would lead on beyond its place.
        self.assertEqual(whole[1][6], (1, 6))
        self.wrong(hook(), (whole, pieces[:6] + [0] + pieces[7:]))
        whole, pieces = framed_line()
        self.wrong(line(), (whole, [0, 0, -1] + pieces[3:]))
        self.wrong(line(), (whole, [0, -1, 0] + pieces[3:]))
        self.wrong(line(), (whole, [-1, 0, -1] + pieces[3:]))
        self.wrong(line(), (whole, [-1, -1, 0] + pieces[3:]))
        # A level tie of the frame, apart from the line and with its heading.
        self.assertEqual((whole[1][8], whole[2][8]), ((7, 4), 0))
        self.wrong(line(), (whole, pieces[:8] + [0]))

    def test_pieces_of_two_ties_exchanged(self):
        for make, make_parting in samples.HAND_PARTINGS:
            whole, pieces = make_parting()
            for one in range(len(make()[1])):
                for other in range(one):
                    change = {one: other, other: one}
                    self.wrong(make(), (whole, [change.get(piece, piece) for piece in pieces]))

    def test_a_place_of_the_first_one_between(self):
        # An arm from 0 over 3 and 4 down to 2; its tip lies on the tie from 0 to 1, which it doesn't.
        arm = (5, [(0, 1), (0, 3), (3, 4), (4, 2)], [0, 1, 0, 3])
        self.assertIsNone(check_laid(arm))
        spots = [(1, 1), (3, 1), (2, 1), (1, 2), (2, 2)]
        spots += [(0, 1), (4, 1), (1, 3), (2, 3), (0, 0), (4, 0), (4, 3), (0, 3)]
        ties = [(0, 2), (2, 1), (0, 3), (3, 4), (4, 2), (0, 5), (1, 6), (3, 7), (4, 8)]
        ties += [(9, 10), (10, 6), (6, 11), (11, 8), (8, 7), (7, 12), (12, 5), (5, 9)]
        whole = headed(spots, ties)
        self.wrong(arm, (whole, [0, 0, 1, 2, 3] + [-1] * 4 + [-2] * 8))
        # As pieces of a map that has the place there, it is right.
        there = (5, [(0, 2), (2, 1), (0, 3), (3, 4), (4, 2)], [0, 0, 1, 0, 3])
        self.right(there, (whole, [0, 1, 2, 3, 4] + [-1] * 4 + [-2] * 8))

    def test_a_place_between_twice_of_two_ties(self):
        # A winding path whose first and last ties would cross at the place 5.
        path = (5, [(0, 1), (1, 4), (4, 3), (2, 3)], [0, 1, 2, 1])
        self.assertIsNone(check_laid(path))
        spots = [(1, 2), (3, 2), (2, 1), (2, 3), (3, 3), (2, 2)]
        spots += [(0, 2), (4, 2), (2, 0), (2, 4), (3, 4), (0, 0), (4, 0), (4, 4), (0, 4)]
        ties = [(0, 5), (5, 1), (1, 4), (4, 3), (2, 5), (5, 3), (0, 6), (1, 7), (2, 8), (3, 9), (4, 10)]
        ties += [(11, 8), (8, 12), (12, 7), (7, 13), (13, 10), (10, 9), (9, 14), (14, 6), (6, 11)]
        whole = headed(spots, ties)
        self.wrong(path, (whole, [0, 0, 1, 2, 3, 3] + [-1] * 5 + [-2] * 9))
        # With a place there it is a right one.
        there = (6, [(0, 5), (5, 1), (1, 4), (4, 3), (2, 5), (5, 3)], [0, 0, 1, 2, 1, 1])
        self.right(there, (whole, [0, 1, 2, 3, 4, 5] + [-1] * 5 + [-2] * 9))

    def test_a_place_between_twice_of_one_tie(self):
        # Pieces that all head alike lead round to where they were: such a thing is no laid-out map.
        ring = (4, [(0, 2), (2, 3), (3, 2), (2, 1)], [0, 0, 0, 0])
        self.wrong(line(), (ring, [0, 0, 0, 0]))
        (many, ties, heads), pieces = framed_line()
        self.wrong(line(), ((many + 1, ties + [(8, 8)], heads + [0]), pieces + [0]))
        self.wrong(line(), ((many, ties + [(0, 1)], heads + [0]), pieces + [0]))

    def test_a_number_of_no_tie(self):
        for make, make_parting in samples.HAND_PARTINGS:
            whole, pieces = make_parting()
            many = len(make()[1])
            for number, piece in enumerate(pieces):
                for other in [many, many + 1, 10 ** 39, -3, -4, -10 ** 39, piece - many - 2]:
                    self.wrong(make(), (whole, pieces[:number] + [other] + pieces[number + 1:]))

    def test_a_land_with_other_corners(self):
        # Without one of the cuts of the windmill, one land has corners of 3.
        (many, ties, heads), pieces = framed_square()
        for number in range(4, 8):
            rest = (many, ties[:number] + ties[number + 1:], heads[:number] + heads[number + 1:])
            self.assertIsNone(check_laid(rest))
            self.assertIn(3, corners_of(rest)[:8])
            self.wrong(square(), (rest, pieces[:number] + pieces[number + 1:]))
        # Without the line's second cut there is a corner of 4.
        (many, ties, heads), pieces = framed_line()
        for number in [1, 2]:
            rest = (many, ties[:number] + ties[number + 1:], heads[:number] + heads[number + 1:])
            self.assertIsNone(check_laid(rest))
            self.assertIn(4, corners_of(rest))
            self.wrong(line(), (rest, pieces[:number] + pieces[number + 1:]))

    def test_a_cut_that_ends_within_a_land(self):
        (many, ties, heads), pieces = framed_square()
        # By the headings that are free at the square's first place and at its third one.
        for place, head in [(0, 2), (2, 0)]:
            stub = (many + 1, ties + [(place, many)], heads + [head])
            self.assertIsNone(check_laid(stub))
            self.wrong(square(), (stub, pieces + [-1]))

    def test_an_outer_land_with_other_corners(self):
        # An oblong more at the right side: its upper edge lies lower than the frame's.
        whole, pieces = framed_line()
        many, ties, heads = whole
        self.assertEqual((ties[3], heads[3]), ((4, 2), 1))
        more = (many + 2, ties + [(4, 8), (8, 9), (9, 2)], heads + [0, 1, 2])
        self.assertIsNone(check_laid(more))
        self.assertEqual(sorted({corners_of(more)[end] for end in lands(map_of(more))[outer_of(more)]}), [1, 2, 3])
        for inner in [-1, -2]:
            self.wrong(line(), (more, pieces[:3] + [inner] + pieces[4:] + [-2] * 3))
        # One just as high as the frame is right, where the old side is told as a cut.
        more = (many + 2, ties + [(4, 8), (8, 9), (9, 5)], heads + [0, 1, 2])
        self.right(line(), (more, pieces[:3] + [-1, -1] + pieces[5:] + [-2] * 3))
        self.wrong(line(), (more, pieces + [-2] * 3))
        # A stalk out of the frame.
        stalk = (many + 1, ties + [(2, 8)], heads + [0])
        self.assertIsNone(check_laid(stalk))
        for told in [-1, -2]:
            self.wrong(line(), (stalk, pieces + [told]))

    def test_no_frame(self):
        # A square is an oblong, but what lies outside of it is of no frame.
        self.wrong(square(), (square(), [0, 1, 2, 3]))
        self.wrong(square(), (square(), [-2] * 4))
        self.wrong(line(), (line(), [0]))
        # A frame of which one tie is a piece of the first one.
        spots = [(0, 0), (2, 0), (2, 1), (0, 1)]
        self.wrong(line(), (headed(spots, [(0, 1), (1, 2), (2, 3), (3, 0)]), [0, -2, -2, -2]))

    def test_what_is_told_as_of_the_frame(self):
        for make, make_parting in samples.HAND_PARTINGS:
            whole, pieces = make_parting()
            for number, piece in enumerate(pieces):
                for other in range(-2, len(make()[1])):
                    if other != piece:
                        self.wrong(make(), (whole, pieces[:number] + [other] + pieces[number + 1:]))


class AtWill(Judged):
    def test_changed_partings_by_the_words_of_the_point(self):
        seen = {True: 0, False: 0}
        told = list(samples.some_laid())
        for seed in range(1500):
            draw = random.Random(seed)
            laid = draw.choice(told)
            whole, pieces = parted(laid)
            for _ in range(draw.randint(1, 2)):
                laid, whole, pieces = changed(draw, laid, whole, pieces)
            wanted = by_the_words(laid, (whole, pieces))
            seen[wanted] += 1
            self.assertIs(is_parting(laid, (whole, pieces)), wanted, (laid, whole, pieces))
        self.assertGreater(min(seen.values()), 100)


def changed(draw, laid, whole, pieces):
    """One thing is changed at will."""
    many, ties, heads = whole
    number = draw.randrange(len(pieces))
    other = draw.randrange(len(pieces))
    what = draw.randrange(6)
    pieces = list(pieces)
    if what == 0:
        pieces[number] = draw.randint(-3, len(laid[1]))
    if what == 1:
        pieces[number], pieces[other] = pieces[other], pieces[number]
    if what == 2:
        whole = samples.turned_about(whole, [number])
    if what == 3:
        rest = [k for k in range(len(pieces)) if k != number]
        return (laid, (many, [ties[k] for k in rest], [heads[k] for k in rest]), [pieces[k] for k in rest])
    if what == 4:
        laid = samples.turned_about(laid, [draw.randrange(len(laid[1]))])
    if what == 5:
        # A tie is parted by a new place.
        a, b = ties[number]
        ties = ties[:number] + [(a, many)] + ties[number + 1:] + [(many, b)]
        return (laid, (many + 1, ties, heads + [heads[number]]), pieces + [pieces[number]])
    return (laid, whole, pieces)


class Told(Judged):
    def test_of_many_maps(self):
        for laid in samples.some_laid():
            self.right(laid, parted(laid))

    def test_all_four_headings_of_the_first_tie(self):
        for laid in samples.some_laid():
            for more in range(4):
                for one in [samples.turned(laid, more), samples.flipped(samples.turned(laid, more))]:
                    self.right(one, parted(one))

    def test_all_headings_of_few_ties(self):
        looked = 0
        for many, ties in samples.FEW_TIES:
            for heads in itertools.product(range(4), repeat=len(ties)):
                laid = (many, ties, list(heads))
                try:
                    check_laid(laid)
                except NoLaid:
                    continue
                looked += 1
                self.right(laid, parted(laid))
        self.assertGreater(looked, 100)

    def test_handed_in_otherwise(self):
        for laid, parting in samples.some_partings():
            self.assertIs(is_parting(laid, parting), True)

    def test_a_line(self):
        # Whichever end the frame hangs at: four places of its corners, two where the cuts end.
        for more in range(4):
            whole, pieces = parted(samples.turned(line(), more))
            self.assertEqual(whole[0], 8)
            self.assertEqual(sorted(pieces), [-2] * 6 + [-1] * 2 + [0])

    def test_corners_of_four_within_a_land(self):
        # A square with a stalk within it from each of its places and sides.
        for seed in range(20):
            draw = random.Random(seed)
            many, ties, heads = square()
            for side in range(4):
                a, b = ties[side]
                ties[side] = (a, many)
                ties += [(many, b), (many, many + 1)]
                heads += [heads[side], (heads[side] + draw.choice([1, 3])) % 4]
                many += 2
            self.assertIsNone(check_laid((many, ties, heads)))
            self.assertIn(4, corners_of((many, ties, heads)))
            self.right((many, ties, heads), parted((many, ties, heads)))

    def test_an_outer_land_that_winds(self):
        for lefts in range(31):
            for rights in [0, 30 - lefts]:
                laid = laid_out(samples.single_tie(), 0, ([4, 4], [lefts, rights]))[0]
                self.right(laid, parted(laid))
        # A ring that winds within and without, and a winding stalk from it.
        for more in range(13):
            laid = laid_out(samples.self_tie(), 1, ([1, 3], [3 + more, more]))[0]
            self.right(laid, parted(laid))
            stalked = (2, [(0, 0), (0, 1)], [[0, 1, 2], [3]])
            laid = laid_out(stalked, 1, ([1, 2, 4, 1], [3 + more, more, 5, 0]))[0]
            self.right(laid, parted(laid))

    def test_the_greatest_ones(self):
        for seed, (wide, high, share) in enumerate([
            (15, 15, 0), (15, 15, 0.5), (15, 15, 1), (60, 60, 0), (100, 2, 0.3), (2, 100, 1), (200, 1, 0), (1, 200, 0),
        ]):
            laid = samples.drawn_laid(seed, wide, high, 200, share)
            self.assertEqual(laid[0], 200)
            self.right(laid, parted(laid))
        laid = samples.grid(20, 10)
        self.right(laid, parted(laid))
        spiral = laid_out(samples.single_tie(), 0, ([4, 4], [198, 0]))[0]
        self.assertEqual(spiral[0], 200)
        self.right(spiral, parted(spiral))

    def test_of_the_laid_out_map_of_a_parting(self):
        for laid in samples.some_laid():
            again = parted(laid)[0]
            self.right(again, parted(again))

    def test_the_kinds(self):
        told = parted(hook())
        self.assertEqual([type(part) for part in told], [tuple, list])
        self.assertEqual([type(part) for part in told[0]], [int, list, list])
        self.assertEqual({type(tie) for tie in told[0][1]}, {tuple})


class AskersOwn(unittest.TestCase):
    def test_new_lists(self):
        for make in samples.LAID + [hook, lambda: framed_hook()[0]]:
            samples.held(self, parted, lambda: (make(),))

    def test_the_judge_changes_nothing(self):
        for make, make_parting in samples.HAND_PARTINGS:
            laid, parting = make(), make_parting()
            for _ in range(2):
                is_parting(laid, parting)
                is_parting(laid, (parting[0], parting[1][:-1] + [-1]))
            self.assertEqual(laid, make())
            self.assertEqual(parting, make_parting())


if __name__ == "__main__":
    unittest.main()
