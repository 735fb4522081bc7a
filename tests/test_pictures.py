import random
import unittest

from fewbends.drawings import drawn, narrowest, shape_of, shortest_drawn
from fewbends.errors import NoLaid, NoPicture
from fewbends.laid import check_laid, corners_of, laid_out
from fewbends.lines import least_numbers, line_numbers
from fewbends.partings import parted
from fewbends.pictures import picture, read_picture
from tests import samples
from tests.samples import every_point

FIGURES = "0123456789"


def shown_by(many, points, ties):
    """What a picture with these places at these points must show, the first so many being figures."""
    turning = sorted(range(many, len(points)), key=lambda place: (-points[place][1], points[place][0]))
    numbers = {place: number for number, place in enumerate(list(range(many)) + turning)}
    told = []
    for a, b in ties:
        (x, y), (u, v) = points[a], points[b]
        if (x, y) > (u, v):
            a, b = b, a
        told.append((numbers[a], 1 if x == u else 0, numbers[b]))
    told.sort()
    return (len(points), [(a, b) for a, head, b in told], [head for a, head, b in told])


def shown_of(drawing):
    """The same of a drawing: its turns are the places behind the spots."""
    spots, lines = drawing
    points = list(spots)
    ties = []
    for line in lines:
        row = [points.index(line[0])]
        for point in line[1:-1]:
            row.append(len(points))
            points.append(point)
        row.append(points.index(line[-1]))
        ties += list(zip(row, row[1:]))
    return shown_by(len(spots), points, ties)


def by_the_words(rows):
    """What point 30 asks and tells, looked at sign by sign; None where it is no picture."""
    wide = max([len(row) for row in rows], default=0)
    sheet = [list(row.ljust(wide)) for row in rows]
    signs = [sign for row in sheet for sign in row]
    figures = sorted(sign for sign in signs if sign.isdigit())
    if not set(signs) <= set(FIGURES + "+-| ") or not figures or figures != list(FIGURES[:len(figures)]):
        return None

    def at(row, place):
        return sheet[row][place] if 0 <= row < len(sheet) and 0 <= place < wide else " "

    def tied(row, place, down, right):
        kinds = FIGURES + ("+-" if right else "+|")
        return at(row, place) in kinds and at(row + down, place + right) in kinds

    spots = {}
    for row in range(len(sheet)):
        for place in range(wide):
            sides = [tied(row, place, 0, -1), tied(row, place, 0, 1)]
            ups = [tied(row, place, -1, 0), tied(row, place, 1, 0)]
            sign = at(row, place)
            if (sign == "-" and not all(sides)) or (sign == "|" and not all(ups)):
                return None
            if sign == "+" and (sides.count(True), ups.count(True)) != (1, 1):
                return None
            if sign == "+" or sign.isdigit():
                spots[(row, place)] = sign
    order = sorted(spots, key=lambda spot: (spots[spot] == "+", spots[spot] if spots[spot] != "+" else spot))
    ties = []
    heads = []
    for number, (row, place) in enumerate(order):
        for head, (down, right) in enumerate([(0, 1), (-1, 0)]):
            if tied(row, place, down, right):
                to = (row + down, place + right)
                while to not in spots:
                    to = (to[0] + down, to[1] + right)
                ties.append((number, order.index(to)))
                heads.append(head)
    return (len(order), ties, heads)


class Shown(unittest.TestCase):
    def test_by_hand(self):
        tie = [(0, 0), (3, 0)]
        self.assertEqual(picture((tie, [tie])), ["0-----1"])
        tie = [(5, 9), (5, 7)]
        self.assertEqual(picture((tie, [tie])), ["0", "|", "|", "|", "1"])
        ring = [one[2] for one in samples.DRAWINGS if one[0] == samples.ring][0]
        self.assertEqual(picture(ring), ["2-1", "| |", "0-+"])
        star = [one[2] for one in samples.DRAWINGS if one[0] == samples.star][0]
        rows = [
            "        2", "        |", "        |", "        |", "        |", "        |", "3-------0---1",
        ] + ["        |"] * 9 + ["        4"]
        self.assertEqual(picture(star), rows)

    def test_turns_and_points_below_nought(self):
        # East, north, east, south, west; the last place lies within.
        line = [(-5, -9), (-4, -9), (-4, -6), (-1, -6), (-1, -8), (-3, -8)]
        rows = ["  +-----+", "  |     |", "  |     |", "  |     |", "  | 1---+", "  |", "0-+"]
        self.assertEqual(picture(([line[0], line[-1]], [line])), rows)
        loops = [one[2] for one in samples.DRAWINGS if one[0] == samples.side_loops][0]
        rows = [
            "      +---+", "      |   |", "      |   |", "      |   |", "+-----0---+", "|     |", "|     |", "|     |",
            "|     |", "|     |", "+-----+",
        ]
        self.assertEqual(picture(loops), rows)

    def test_blanks_at_a_rows_end_are_left_out(self):
        for make, outer, drawing, shape in samples.DRAWINGS:
            for row in picture(drawing):
                self.assertEqual(row, row.rstrip())
            # Mirrored, the blanks stand elsewhere.
            for row in picture(every_point(lambda x, y: (-x, y), drawing)):
                self.assertEqual(row, row.rstrip())

    def test_a_row_without_signs_is_the_empty_text(self):
        # Lines that hang together leave no such row; these don't.
        lines = [[(0, 0), (1, 0)], [(0, 2), (1, 2)]]
        self.assertEqual(picture((lines[0] + lines[1], lines)), ["2-3", "", "", "", "0-1"])

    def test_ten_places(self):
        spots = [(place, 0) for place in range(10)]
        lines = [[(place, 0), (place + 1, 0)] for place in range(9)]
        self.assertEqual(picture((spots, lines)), ["0-1-2-3-4-5-6-7-8-9"])

    def test_sixty_and_sixty_one(self):
        for begin in [0, -30, 10 ** 39, -10 ** 39]:
            for far, right in [(60, True), (61, False), (59, True), (10 ** 39, False)]:
                for tie in [[(begin, 7), (begin + far, 7)], [(7, begin), (7, begin + far)]]:
                    for line in [tie, tie[::-1]]:
                        if right:
                            rows = picture(([line[0], line[1]], [line]))
                            self.assertIn((len(rows), len(rows[0])), [(1, 2 * far + 1), (2 * far + 1, 1)])
                        else:
                            with self.assertRaises(NoPicture):
                                picture(([line[0], line[1]], [line]))

    def test_turns_count_too(self):
        # The spots lie near one another; a turn lies further off.
        for far, right in [(60, True), (61, False)]:
            for line in [
                [(0, 0), (far, 0), (far, 1), (0, 1)], [(0, 0), (0, far), (1, far), (1, 0)],
                [(0, 0), (-far, 0), (-far, 1), (0, 1)], [(0, 0), (0, -far), (1, -far), (1, 0)],
            ]:
                if right:
                    picture(([line[0], line[-1]], [line]))
                else:
                    with self.assertRaises(NoPicture):
                        picture(([line[0], line[-1]], [line]))

    def test_sign_by_sign(self):
        for web, outer, drawing in samples.some_at_will(120):
            stretched = every_point(lambda x, y: (2 * x - 9, 3 * y - 4), drawing)
            for one in [drawing, stretched]:
                self.assertEqual(picture(one), rows_by_the_words(one))


def rows_by_the_words(drawing):
    """Each sign of the picture, asked of the point that stands there."""
    spots, lines = drawing
    points = spots + [point for line in lines for point in line]
    left, right = min(x for x, y in points), max(x for x, y in points)
    low, top = min(y for x, y in points), max(y for x, y in points)

    def sign(row, place):
        x, y = 2 * left + place, 2 * top - row
        for number, (u, v) in enumerate(spots):
            if (x, y) == (2 * u, 2 * v):
                return str(number)
        for line in lines:
            if (x, y) in [(2 * u, 2 * v) for u, v in line[1:-1]]:
                return "+"
        for line in lines:
            for (a, b), (c, d) in zip(line, line[1:]):
                if 2 * min(a, c) <= x <= 2 * max(a, c) and 2 * min(b, d) <= y <= 2 * max(b, d):
                    return "-" if b == d else "|"
        return " "

    wide, high = 2 * (right - left) + 1, 2 * (top - low) + 1
    return ["".join(sign(row, place) for place in range(wide)).rstrip() for row in range(high)]


class Read(unittest.TestCase):
    def no_picture(self, *rows):
        with self.assertRaises(NoPicture, msg=rows):
            read_picture(list(rows))

    def no_laid(self, *rows):
        with self.assertRaises(NoLaid, msg=rows):
            read_picture(list(rows))

    def shows(self, rows, *laid):
        self.assertEqual(read_picture(rows), laid)

    def test_by_hand(self):
        self.shows(["0-1"], 2, [(0, 1)], [0])
        self.shows(["0-------1"], 2, [(0, 1)], [0])
        self.shows(["1-0"], 2, [(1, 0)], [0])
        self.shows(["0", "|", "1"], 2, [(1, 0)], [1])
        self.shows(["1", "|", "|", "|", "0"], 2, [(0, 1)], [1])
        self.shows(["2-1", "| |", "0-+"], 4, [(0, 3), (0, 2), (2, 1), (3, 1)], [0, 1, 0, 1])
        self.shows(["+-+", "| |", "0-+"], 4, [(0, 3), (0, 1), (1, 2), (3, 2)], [0, 1, 0, 1])

    def test_signs_side_by_side(self):
        self.shows(["01"], 2, [(0, 1)], [0])
        self.shows(["1", "0"], 2, [(0, 1)], [1])
        self.shows(["01", "23"], 4, [(0, 1), (2, 3), (2, 0), (3, 1)], [0, 0, 1, 1])
        self.shows(["++", "0+"], 4, [(0, 3), (0, 1), (1, 2), (3, 2)], [0, 1, 0, 1])
        self.shows(["2103"], 4, [(0, 3), (1, 0), (2, 1)], [0, 0, 0])
        self.shows(["0+", " 1"], 3, [(0, 2), (1, 2)], [0, 1])

    def test_turns_are_numbered_row_by_row(self):
        rows = ["  +-----+", "  |     |", "  | 1---+", "  |", "0-+"]
        self.shows(rows, 6, [(0, 5), (1, 4), (2, 3), (4, 3), (5, 2)], [0, 0, 0, 1, 1])

    def test_rows_of_unlike_lengths(self):
        wanted = (4, [(0, 3), (0, 2), (2, 1), (3, 1)], [0, 1, 0, 1])
        self.shows(["2-1   ", "| |", "0-+ "], *wanted)
        self.shows(["", "   2-1", "   | |", "   0-+", "", "    "], *wanted)
        self.shows(["  2-1" + 195 * " "] + ["  | |"] * 190 + ["  0-+"] + [""] * 8, *wanted)
        self.shows([" 0", " |", " +-1"], 3, [(2, 1), (2, 0)], [0, 1])

    def test_lines_beside_one_another(self):
        # Only figures and turns are tied upward and sideways alike.
        self.shows([" 0--+", "1---+"], 4, [(0, 2), (1, 3), (3, 2)], [0, 0, 1])
        self.shows(["0-+", "1-+"], 4, [(0, 2), (1, 3), (1, 0), (3, 2)], [0, 0, 1, 1])
        self.shows(["02", "||", "13"], 4, [(0, 2), (1, 3), (1, 0), (3, 2)], [0, 0, 1, 1])
        self.no_laid("2", "|0-1", "3")
        self.no_laid(" 0", "2-3", " 1")

    def test_another_sign(self):
        for sign in ["x", "=", "/", "\t", "\n", "_", ".", "*", "o", "a", "\u2500", "\u0661", "\u00b2", "\0", "\u00a0", "~", "!"]:
            self.no_picture("0" + sign + "1")
            self.no_picture("0-1" + sign)
            self.no_picture("0-1", sign)
            self.no_picture(sign, "", "0-1")
            self.no_picture("0-1", "", "   " + sign)

    def test_figures(self):
        # None; one missing; one twice.
        self.no_picture()
        self.no_picture("")
        self.no_picture("", "   ", "")
        self.no_picture("++", "++")
        self.no_picture("1")
        self.no_picture("1-2")
        self.no_picture("0-2")
        self.no_picture("0-0")
        self.no_picture("0-1-1")
        self.no_picture("0-1-0")
        self.no_picture("0-1-3")
        self.no_picture("0-1", "", "0-1")
        self.no_picture("9876543210-0")
        self.no_picture("12-3")
        self.shows(["0-1-2-3-4-5-6-7-8-9"], 10, [(place, place + 1) for place in range(9)], [0] * 9)

    def test_level_lines_that_arent_tied(self):
        for row in ["0-", "-0", "0- 1", "0 -1", "0-1-", "-0-1", "0-1 -", "0-1  --", "-", "0--", "0-|-1", "0-|1"]:
            self.no_picture(row)
        self.no_picture("0-1", "-")
        self.no_picture("0", "-", "1")
        self.no_picture("0-1", "|", "-", "|", "2")
        self.no_picture("0-1", "  -")
        self.no_picture("0 1", "---", "2 3")

    def test_upright_lines_that_arent_tied(self):
        self.no_picture("0-1", "|")
        self.no_picture("|", "0-1")
        self.no_picture("0", "|", "", "1")
        self.no_picture("0", "", "|", "1")
        self.no_picture("0|1")
        self.no_picture("0", "-", "|", "1")
        self.no_picture("0-1", "", "|")
        self.no_picture("0", "|", "|")
        self.no_picture("0-1", " |", "2-3")

    def test_turns_that_arent_tied_rightly(self):
        # With no sign, with one, with two in one line, with three, with four.
        self.no_picture("0-1", "", "+")
        self.no_picture("0-+")
        self.no_picture("+-0")
        self.no_picture("0", "|", "+")
        self.no_picture("+", "|", "0")
        self.no_picture("0-+-1")
        self.no_picture("0", "|", "+", "|", "1")
        self.no_picture("0-+-1", "  |", "  2")
        self.no_picture("  2", "  |", "0-+-1")
        self.no_picture("0", "|", "+-1", "|", "2")
        self.no_picture("  2", "  |", "0-+-1", "  |", "  3")
        self.no_picture("0+1")
        # A line that ends beside it is not tied to it.
        self.no_picture("0-+", "  -")
        self.no_picture("0-+|")
        # Tied rightly it is a turn, by each of the four ways.
        self.shows(["0-+", "  |", "  1"], 3, [(0, 2), (1, 2)], [0, 1])
        self.shows(["  1", "  |", "0-+"], 3, [(0, 2), (2, 1)], [0, 1])
        self.shows(["+-0", "|", "1"], 3, [(1, 2), (2, 0)], [1, 0])
        self.shows(["1", "|", "+-0"], 3, [(2, 0), (2, 1)], [0, 1])

    def test_no_laid_out_map(self):
        # No tie; parts that don't hang together, with figures or without.
        self.no_laid("0")
        self.no_laid("", "   0", "")
        self.no_laid("0 1")
        self.no_laid("0", "", "1")
        self.no_laid("0", " 1")
        self.no_laid("0-1 2-3")
        self.no_laid("0-1", "", "2-3")
        self.no_laid("0-1", "", "+-+", "| |", "+-+")
        self.no_laid("0-1 2")
        self.no_laid("+---+", "|   |", "| 0 |", "|   |", "+---+")
        self.no_laid("+----+", "|0-1 |", "|    |", "+----+")

    def test_no_picture_comes_ahead_of_no_laid(self):
        self.no_picture("0-1 2-3-")
        self.no_picture("0 2")
        self.no_picture("0", "", "x")

    def test_the_greatest_ones(self):
        rows = [" " * 199 + "1"] + [" " * 199 + "|"] * 198 + ["0" + "-" * 198 + "+"]
        self.shows(rows, 3, [(0, 2), (2, 1)], [0, 1])
        # Full of figures and turns: stairs through the whole sheet.
        rows = []
        for number in range(200):
            row = " " * number + ("0" if number == 0 else "+") + ("1" if number == 199 else "+")
            rows.append(row[:200])
        rows[199] = " " * 199 + "1"
        told = read_picture(rows)
        self.assertEqual(told[0], 2 + 2 * 199 - 1)
        self.assertIsNone(check_laid(told))

    def test_at_will_by_the_words_of_the_point(self):
        seen = {"laid": 0, "no laid": 0, "no picture": 0}
        made = [picture(drawing) for web, outer, drawing in samples.some_at_will(80)]
        for seed in range(8000):
            draw = random.Random(seed)
            rows = [list(row) for row in draw.choice(made)] + [[]]
            for _ in range(draw.choice([1, 1, 2])):
                row = draw.choice(rows)
                sign = draw.choice("  01234++--||x")
                what = draw.randrange(4)
                if what == 0:
                    row.append(sign)
                elif what == 1:
                    # A whole column or a whole row is left out, or doubled.
                    place = draw.randrange(8)
                    rows = [one[:place] + one[place + 1:] for one in rows]
                elif what == 2:
                    rows.insert(draw.randrange(len(rows)), list(row))
                elif row:
                    row[draw.randrange(len(row))] = sign
            self.look_at(["".join(row) for row in rows], seen)
        self.assertGreater(min(seen.values()), 30)

    def test_all_small_sheets(self):
        seen = {"laid": 0, "no laid": 0, "no picture": 0}
        for number in range(7 ** 5):
            signs = ["01+-| 2"[number // 7 ** k % 7] for k in range(5)]
            self.look_at(["".join(signs[:3]), "".join(signs[3:])], seen)
            self.look_at(["".join(signs[:2]), "".join(signs[2:4]), signs[4]], seen)
        self.assertGreater(min(seen.values()), 50)

    def look_at(self, rows, seen):
        wanted = by_the_words(rows)
        if wanted is not None:
            try:
                check_laid(wanted)
            except NoLaid:
                seen["no laid"] += 1
                self.no_laid(*rows)
            else:
                seen["laid"] += 1
                self.shows(rows, *wanted)
        else:
            seen["no picture"] += 1
            self.no_picture(*rows)


class ThereAndBack(unittest.TestCase):
    def test_right_drawings_by_hand(self):
        for make, outer, drawing, shape in samples.DRAWINGS:
            for change in [lambda x, y: (x, y), lambda x, y: (-y, x), lambda x, y: (-x, -y), lambda x, y: (y, -x)]:
                self.look_at(make(), every_point(change, drawing))

    def test_right_drawings_made_without_the_program(self):
        for web, outer, drawing in samples.some_at_will(150):
            self.look_at(web, drawing)

    def look_at(self, web, drawing):
        """What is shown by the drawing's picture, and that its corners are those that are read off."""
        laid = read_picture(picture(drawing))
        self.assertEqual(laid, shown_of(drawing))
        corners = corners_of(laid)
        by_place = {}
        for number, (a, b) in enumerate(laid[1]):
            by_place[(a, laid[2][number])] = corners[2 * number + 1]
            by_place[(b, laid[2][number] + 2)] = corners[2 * number]
        wanted = shape_of(web, drawing)[0]
        for tie, (a, b) in enumerate(web[1]):
            for end, place, line in [(2 * tie, b, drawing[1][tie][::-1]), (2 * tie + 1, a, drawing[1][tie])]:
                across, up = line[1][0] - line[0][0], line[1][1] - line[0][1]
                back = [across > 0, up > 0, across < 0, up < 0].index(True)
                self.assertEqual(by_place[(place, back)], wanted[end])

    def test_what_is_drawn_shows_what_is_laid_out(self):
        for seed in range(40):
            many = 2 + seed % 9
            web, outer, shape = samples.drawn_shape(seed, many, min(many + seed % 7, 2 * many - 1))
            for one in [shape, samples.with_more_turns(seed, shape, 1)]:
                laid, owners = laid_out(web, outer, one)
                parting = parted(laid)
                numbers = [least_numbers(parting, way) for way in [0, 1]]
                for across, upward in [numbers, [[2 * number - 7 for number in part] for part in numbers]]:
                    points = [
                        (across[line], upward[level])
                        for line, level in zip(line_numbers(parting, 0), line_numbers(parting, 1))
                    ][:laid[0]]
                    rows = picture(drawn(web, outer, one, across, upward))
                    self.assertEqual(read_picture(rows), shown_by(web[0], points, laid[1]))
                for ask in [narrowest, shortest_drawn]:
                    self.look_at(web, ask(web, outer, one))


class AskersOwn(unittest.TestCase):
    def test_new_lists(self):
        for make, outer, drawing, shape in samples.DRAWINGS:
            samples.held(self, picture, lambda: (every_point(lambda x, y: (x, y), drawing),))
            samples.held(self, read_picture, lambda: (picture(drawing),))

    def test_the_kinds(self):
        rows = picture(([(0, 0), (1, 0)], [[(0, 0), (1, 0)]]))
        self.assertEqual((type(rows), type(rows[0])), (list, str))
        laid = read_picture(rows)
        self.assertEqual([type(part) for part in laid], [int, list, list])
        self.assertEqual(type(laid[1][0]), tuple)


if __name__ == "__main__":
    unittest.main()
