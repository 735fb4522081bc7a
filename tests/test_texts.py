import random
import re
import unittest

from fewbends.drawings import narrowest, shortest_drawn
from fewbends.errors import NoMap, NoText
from fewbends.maps import check_map
from fewbends.texts import read_drawing, read_map, read_shape, show_drawing, show_map, show_shape
from tests import samples

GREAT = 10 ** 40 - 1
RING = "map 3\ntie 0 1\ntie 1 2\ntie 2 0\norder 0> 2<\norder 1> 0<\norder 2> 1<"
SHAPE = "turns 1 - 3\nturns 2 llr 3\nturns 1 rr 2"
DRAWING = "spot 0 0\nspot 2 -1\nline 0 0 e3 s1 w1"

# Numbers that are written otherwise than they should, or are none.
WRONG_NUMBERS = [
    "", "+1", "01", "00", "-0", "-01", "--1", "1-", "-", "+", "1.0", "1e3", "0x1", "1_0", "x", "a", "1a", "1,", "'1'",
    "1" + 40 * "0", "-1" + 40 * "0", 41 * "9", "0" + 40 * "9", 5000 * "9", "\t1", "1\t", "1\r", "\u0661", "\u00b2", "\uff11", "None",
    "True",
]


def without_each(text):
    """The text without one of its lines, without one of its words, with one twice, with one other."""
    rows = text.split("\n")
    for number, row in enumerate(rows):
        words = row.split(" ")
        for place, word in enumerate(words):
            for other in [words[:place] + words[place + 1:], words[:place] + [word, word] + words[place + 1:]]:
                yield (number, place, "\n".join(rows[:number] + [" ".join(other)] + rows[number + 1:]))


def with_word(text, number, place, word):
    """The text with this word at that place of the line of that number."""
    rows = [row.split(" ") for row in text.split("\n")]
    rows[number][place] = word
    return "\n".join(" ".join(row) for row in rows)


class Refused(unittest.TestCase):
    def no_text(self, read, text):
        with self.assertRaises(NoText, msg=repr(text)):
            read(text)

    def blanks_and_line_ends(self, read, text):
        """What no text may have anywhere."""
        read(text)
        for place, sign in enumerate(text):
            if sign == " ":
                for other in ["  ", "\t", "", "\n", " \n", "\n ", "\u00a0", "_"]:
                    self.no_text(read, text[:place] + other + text[place + 1:])
            if sign == "\n":
                for other in [" \n", "\n ", "\n\n", "\r\n", "\r", " ", "", "\x0b", "\x0c", "\u2028", ";"]:
                    self.no_text(read, text[:place] + other + text[place + 1:])
        for other in ["\n" + text, text + "\n", " " + text, text + " ", text + "\n ", "\ufeff" + text, text + "\0"]:
            self.no_text(read, other)
        for other in ["", " ", "\n", "\n\n", "  ", text.upper(), text.replace(" ", ""), text + "\n" + text.upper()]:
            self.no_text(read, other)


class Maps(Refused):
    def test_by_hand(self):
        self.assertEqual(show_map(samples.ring()), RING)
        self.assertEqual(read_map(RING), samples.ring())
        self.assertEqual(show_map(samples.self_tie()), "map 1\ntie 0 0\norder 0> 0<")
        text = "map 4\ntie 0 1\ntie 0 2\ntie 0 3\norder 0> 1> 2>\norder 0<\norder 1<\norder 2<"
        self.assertEqual(show_map(samples.tree()), text)
        self.assertEqual(read_map(text), samples.tree())

    def test_there_and_back(self):
        for make in samples.FLAT + samples.NOT_FLAT:
            for web in samples.rotations(make()):
                self.assertEqual(read_map(show_map(web)), web)
        for seed in range(30):
            web = samples.drawn_map(seed, 2 + seed % 9, 3 + seed % 9)
            self.assertEqual(read_map(show_map(web)), web)

    def test_the_greatest_ones(self):
        web = samples.long_ring(200, 200)
        self.assertEqual(read_map(show_map(web)), web)

    def test_blanks_and_line_ends(self):
        self.blanks_and_line_ends(read_map, RING)

    def test_a_word_more_or_less(self):
        for number, place, text in without_each(RING):
            # An order may have any count of ends; it is no map then.
            with self.assertRaises(NoMap if RING.split("\n")[number].startswith("order") and place else NoText, msg=text):
                read_map(text)

    def test_another_word(self):
        for number, word in enumerate(["map", "tie", "tie", "tie", "order", "order", "order"]):
            for other in ["", "Map", "ties", "orde", "orders", "spot", "turns", "line", "1", "map", "tie", "order", word + "x"]:
                if other != word:
                    self.no_text(read_map, with_word(RING, number, 0, other))

    def test_numbers_otherwise_written(self):
        for wrong in WRONG_NUMBERS:
            for number, place in [(0, 1), (1, 1), (1, 2), (3, 2)]:
                self.no_text(read_map, with_word(RING, number, place, wrong))
            for side in "><":
                self.no_text(read_map, with_word(RING, 4, 1, wrong + side))
                self.no_text(read_map, with_word(RING, 6, 2, wrong + side))

    def test_ends_otherwise_written(self):
        for wrong in ["0", "0>>", "0<>", ">0", "<", ">", "0 >", "0)", "0=", "0-", "0l", "-", "0>,", "0"]:
            self.no_text(read_map, with_word(RING, 4, 1, wrong))

    def test_lines_out_of_their_order(self):
        rows = RING.split("\n")
        for one in range(len(rows)):
            for other in range(one):
                if rows[one].split(" ")[0] != rows[other].split(" ")[0]:
                    changed = list(rows)
                    changed[one], changed[other] = rows[other], rows[one]
                    self.no_text(read_map, "\n".join(changed))
        self.no_text(read_map, "\n".join(rows[:1] + rows))
        self.no_text(read_map, "\n".join(rows[1:]))
        self.no_text(read_map, "\n".join(rows + rows[:1]))
        self.no_text(read_map, "\n".join(rows + rows[1:2]))

    def test_other_counts_of_orders(self):
        rows = RING.split("\n")
        self.no_text(read_map, "\n".join(rows[:-1]))
        self.no_text(read_map, "\n".join(rows + ["order"]))
        self.no_text(read_map, "\n".join(rows[:4]))
        for many in ["0", "-1", "-3", "1", "2", "4", "30", "9" * 40]:
            self.no_text(read_map, with_word(RING, 0, 1, many))
        self.no_text(read_map, "map 1")
        self.no_text(read_map, "map 0")
        self.no_text(read_map, "map 0\ntie 0 0")
        self.no_text(read_map, "map -1\norder")
        self.no_text(read_map, "map")
        self.no_text(read_map, "order")

    def test_no_map(self):
        for text in [
            # The form is right, but there is no tie, or numbers are of nothing there.
            "map 1\norder", "map 2\norder\norder", "map 2\ntie 0 1\norder 0>\norder", "map 2\ntie 0 1\norder\norder",
            "map 2\ntie 0 2\norder 0>\norder 0<", "map 2\ntie 0 -1\norder 0>\norder 0<", "map 1\ntie 0 0\norder 0< 0< 0>",
            "map 2\ntie 0 1\norder 0<\norder 0>", "map 2\ntie 0 1\norder 1>\norder 0<", "map 2\ntie 0 1\norder -1>\norder 0<",
            f"map 2\ntie {GREAT} 1\norder 0>\norder 0<", f"map 2\ntie 0 1\norder {GREAT}>\norder -{GREAT}<",
            "map 4\ntie 0 1\ntie 2 3\norder 0>\norder 0<\norder 1>\norder 1<",
        ]:
            with self.assertRaises(NoMap, msg=text):
                read_map(text)

    def test_no_text_comes_ahead_of_no_map(self):
        for text in ["map 1\norder ", "map 2\ntie 0 7\norder 0>\norder 0", "map 2\ntie 0 7\norder 0>"]:
            self.no_text(read_map, text)

    def test_beyond_the_bounds_of_maps(self):
        web = samples.long_ring(201, 0)
        with self.assertRaises(NoMap):
            read_map(show_map(web))
        self.assertIsNone(check_map(read_map(show_map(samples.long_ring(200, 0)))))


class Shapes(Refused):
    def test_by_hand(self):
        self.assertEqual(show_shape(([1, 3, 2, 3, 1, 2], [0, 0, 2, 1, 0, 2])), SHAPE)
        self.assertEqual(read_shape(SHAPE), ([1, 3, 2, 3, 1, 2], [0, 0, 2, 1, 0, 2]))
        self.assertEqual(show_shape(([4, 4], [0, 0])), "turns 4 - 4")
        self.assertEqual(show_shape(([4, 4], [1, 0])), "turns 4 l 4")
        self.assertEqual(show_shape(([4, 4], [0, 1])), "turns 4 r 4")
        self.assertEqual(show_shape(([4, 4], [30, 0])), "turns 4 " + 30 * "l" + " 4")

    def test_there_and_back(self):
        for make, outer, shape in samples.SHAPES:
            self.assertEqual(read_shape(show_shape(shape)), shape)

    def test_turns_in_any_order(self):
        for word, wanted in [
            ("l", [1, 0]), ("r", [0, 1]), ("rl", [1, 1]), ("lr", [1, 1]), ("rlrl", [2, 2]), ("rll", [2, 1]), ("lrr", [1, 2]),
            ("rrl", [1, 2]), ("-", [0, 0]), (100 * "lr", [100, 100]), (2000 * "rl" + "l", [2001, 2000]),
        ]:
            self.assertEqual(read_shape(f"turns 1 {word} 3"), ([1, 3], wanted))

    def test_what_is_of_no_map_is_let_by(self):
        # Corners and turns that no shape has: is_shape looks at that.
        self.assertEqual(read_shape("turns 1 - 1"), ([1, 1], [0, 0]))
        self.assertEqual(read_shape("turns 1 - 1\n" * 99 + "turns 4 l 2"), ([1] * 198 + [4, 2], [0] * 198 + [1, 0]))

    def test_blanks_and_line_ends(self):
        self.blanks_and_line_ends(read_shape, SHAPE)
        self.blanks_and_line_ends(read_shape, "turns 4 - 4")

    def test_a_word_more_or_less(self):
        for number, place, text in without_each(SHAPE):
            self.no_text(read_shape, text)

    def test_corners_that_arent_one_to_four(self):
        for wrong in WRONG_NUMBERS + ["0", "5", "10", "-1", "11", "44", "12", "l", "34"]:
            for place in [1, 3]:
                for number in [0, 1, 2]:
                    self.no_text(read_shape, with_word(SHAPE, number, place, wrong))

    def test_words_that_arent_turns(self):
        for wrong in ["", "--", "-l", "l-", "L", "R", "lR", "x", "lxr", "0", "1", "ll.", "l,r", "|", "left", "+", "e1", "\u2113"]:
            self.no_text(read_shape, with_word(SHAPE, 1, 2, wrong))

    def test_another_word(self):
        for number in [0, 1, 2]:
            for other in ["", "turn", "Turns", "turnss", "spot", "line", "tie", "map", "1", "-"]:
                self.no_text(read_shape, with_word(SHAPE, number, 0, other))
        self.no_text(read_shape, RING)
        self.no_text(read_shape, DRAWING)


class Drawings(Refused):
    def test_by_hand(self):
        drawing = ([(0, 0), (2, -1)], [[(0, 0), (3, 0), (3, -1), (2, -1)]])
        self.assertEqual(show_drawing(drawing), DRAWING)
        self.assertEqual(read_drawing(DRAWING), drawing)
        drawing = ([(0, 2)], [[(0, 2), (3, 2), (3, 3), (0, 3), (0, 2)]])
        self.assertEqual(show_drawing(drawing), "spot 0 2\nline 0 2 e3 n1 w3 s1")
        self.assertEqual(read_drawing("spot 0 2\nline 0 2 e3 n1 w3 s1"), drawing)

    def test_there_and_back(self):
        for make, outer, drawing, shape in samples.DRAWINGS:
            self.assertEqual(read_drawing(show_drawing(drawing)), drawing)
            great = samples.every_point(lambda x, y: (x * 10 ** 38 - 7, 10 ** 38 * y + 1), drawing)
            self.assertEqual(read_drawing(show_drawing(great)), great)
        for make, outer, shape in samples.SHAPES:
            for ask in [narrowest, shortest_drawn]:
                drawing = ask(make(), outer, shape)
                self.assertEqual(read_drawing(show_drawing(drawing)), drawing)

    def test_numbers_of_forty_figures(self):
        text = f"spot -{GREAT} {GREAT}\nspot 0 {GREAT}\nline -{GREAT} {GREAT} e{GREAT}"
        drawing = ([(-GREAT, GREAT), (0, GREAT)], [[(-GREAT, GREAT), (0, GREAT)]])
        self.assertEqual(show_drawing(drawing), text)
        self.assertEqual(read_drawing(text), drawing)
        told = read_drawing(f"spot 0 0\nline {GREAT} -{GREAT} e{GREAT} s{GREAT}")
        self.assertEqual(told[1], [[(GREAT, -GREAT), (2 * GREAT, -GREAT), (2 * GREAT, -2 * GREAT)]])

    def test_what_is_no_right_drawing_is_let_by(self):
        told = read_drawing("spot 7 7\nspot 7 7\nspot 1 1\nline 0 2 e3 e1 w9 n1 n1\nline 5 5 s1")
        line = [(0, 2), (3, 2), (4, 2), (-5, 2), (-5, 3), (-5, 4)]
        self.assertEqual(told, ([(7, 7), (7, 7), (1, 1)], [line, [(5, 5), (5, 4)]]))

    def test_blanks_and_line_ends(self):
        self.blanks_and_line_ends(read_drawing, DRAWING)

    def test_a_word_more_or_less(self):
        for number, place, text in without_each(DRAWING):
            if number < 2 or place < 3:
                self.no_text(read_drawing, text)
            else:
                # A line may have any count of steps, one at least.
                read_drawing(text)
        self.no_text(read_drawing, "spot 0 0\nline 0 0")
        self.no_text(read_drawing, "spot 0 0\nline 0")
        self.no_text(read_drawing, "spot 0 0\nline")
        self.no_text(read_drawing, "spot 0 0\nline 0 e1 e1")
        self.no_text(read_drawing, "spot 0 0\nline 0 0 1")

    def test_numbers_otherwise_written(self):
        for wrong in WRONG_NUMBERS:
            for number, place in [(0, 1), (0, 2), (1, 1), (1, 2), (2, 1), (2, 2)]:
                self.no_text(read_drawing, with_word(DRAWING, number, place, wrong))
            for letter in "enws":
                self.no_text(read_drawing, with_word(DRAWING, 2, 3, letter + wrong))
                self.no_text(read_drawing, with_word(DRAWING, 2, 5, letter + wrong))

    def test_steps_by_less_than_one_and_other_letters(self):
        for wrong in ["e0", "n-1", "w0", "s-5", "E1", "x1", "1e", "ee1", "en1", "e", "1", "-1", "0", "e 1", "e1n1", "l1", "north1"]:
            for place in [3, 4, 5]:
                self.no_text(read_drawing, with_word(DRAWING, 2, place, wrong))
        for letter in "enws":
            read_drawing(with_word(DRAWING, 2, 4, letter + "1"))
            read_drawing(with_word(DRAWING, 2, 4, letter + str(GREAT)))

    def test_lines_out_of_their_order(self):
        self.no_text(read_drawing, "line 0 0 e1\nspot 0 0\nspot 1 0")
        self.no_text(read_drawing, "spot 0 0\nline 0 0 e1\nspot 1 0")
        self.no_text(read_drawing, "spot 0 0\nspot 1 0")
        self.no_text(read_drawing, "line 0 0 e1")
        self.no_text(read_drawing, "spot 0 0")

    def test_another_word(self):
        for number, word in enumerate(["spot", "spot", "line"]):
            for other in ["", "Spot", "spots", "lines", "turns", "tie", "map", "order", "1"]:
                self.no_text(read_drawing, with_word(DRAWING, number, 0, other))
        self.no_text(read_drawing, with_word(DRAWING, 1, 0, "line"))
        self.no_text(read_drawing, with_word(DRAWING, 2, 0, "spot"))


class ByTheWords(unittest.TestCase):
    """One sign is changed at will: it is still such a text just where a pattern says so."""

    NUMBER = r"(0|-?[1-9][0-9]{0,39})"
    PATTERNS = {
        read_shape: r"turns [1-4] (-|[lr]+) [1-4](\nturns [1-4] (-|[lr]+) [1-4])*",
        read_drawing: rf"spot {NUMBER} {NUMBER}(\nspot {NUMBER} {NUMBER})*"
        rf"(\nline {NUMBER} {NUMBER}( [enws][1-9][0-9]{{0,39}})+)+",
        read_map: rf"map [1-9][0-9]{{0,39}}(\ntie {NUMBER} {NUMBER})*(\norder( {NUMBER}[<>])*)+",
    }

    def test_one_sign_changed(self):
        for read, text in [(read_shape, SHAPE), (read_drawing, DRAWING), (read_map, RING)]:
            seen = {True: 0, False: 0}
            for seed in range(3000):
                draw = random.Random(seed)
                place = draw.randrange(len(text) + 1)
                sign = draw.choice(["", " ", "\n", "0", "1", "2", "3", "4", "5", "-", "l", "r", "e", "n", "<", ">", "x"])
                changed = text[:place] + sign + text[place + draw.randrange(2):]
                wanted = self.is_such(read, changed)
                seen[wanted] += 1
                try:
                    read(changed)
                except NoText:
                    self.assertFalse(wanted, changed)
                except NoMap:
                    self.assertTrue(wanted, changed)
                else:
                    self.assertTrue(wanted, changed)
            self.assertGreater(min(seen.values()), 50)

    def is_such(self, read, text):
        if not re.fullmatch(self.PATTERNS[read], text):
            return False
        if read != read_map:
            return True
        rows = text.split("\n")
        return int(rows[0][4:]) == len([row for row in rows if row.startswith("order")])


class AskersOwn(unittest.TestCase):
    def test_new_lists(self):
        # What is read has no list but its own, and a later answer is not changed with it.
        for read, text in [(read_map, RING), (read_shape, SHAPE), (read_drawing, DRAWING)]:
            samples.held(self, read, lambda: (text,))

    def test_what_is_shown_is_unchanged(self):
        for make in samples.FLAT:
            web = make()
            self.assertEqual(show_map(web), show_map(web))
            self.assertEqual(web, make())
        for make, outer, drawing, shape in samples.DRAWINGS:
            handed = ([list(part) for part in shape], [list(drawing[0]), [list(line) for line in drawing[1]]])
            show_shape(tuple(handed[0]))
            show_drawing(tuple(handed[1]))
            self.assertEqual((tuple(handed[0]), tuple(handed[1])), (shape, drawing))


if __name__ == "__main__":
    unittest.main()
