import unittest

from fewbends.desk import Desk
from fewbends.drawings import is_drawing, narrowest, shape_of, shortest_drawn
from fewbends.errors import NoLand, NoMap, NoPicture, NoRow, NotFlat, NoText, NoThing
from fewbends.fewest import cost, fewest, keeps, shows_fewest, shows_none
from fewbends.laid import laid_out
from fewbends.lengths import length, shortest
from fewbends.lines import breadth
from fewbends.maps import is_flat, lands
from fewbends.outers import best_outer
from fewbends.partings import parted
from fewbends.pictures import picture
from fewbends.shapes import is_shape
from fewbends.texts import read_drawing, read_shape, show_drawing, show_map, show_shape
from tests import samples

GREAT = 10 ** 40 - 1
TIE = "map 2\ntie 0 1\norder 0>\norder 0<"
LOOP = "map 1\ntie 0 0\norder 0> 0<"
RING = "map 3\ntie 0 1\ntie 1 2\ntie 2 0\norder 0> 2<\norder 1> 0<\norder 2> 1<"
CROSSING = "map 1\ntie 0 0\ntie 0 0\norder 0> 1> 0< 1<"
RING_SHAPE = "turns 1 l 3\nturns 1 - 3\nturns 1 - 3"
RING_DRAWING = "spot 0 0\nspot 1 1\nspot 0 1\nline 0 0 e1 n1\nline 1 1 w1\nline 0 1 s1"

ALONE = "flat lands outer wishes cost shape paper best breadths lengths drawing short picture".split()
# Rows with a rest, each of the form that is asked.
WITH_REST = [
    "outer 0", "weights 1", "bars 1", "bars -", "sets 1", "sets -", "right turns 4 - 4", "keeps turns 4 - 4",
    "fewest turns 4 - 4 = 0 0 0", "none 0", "drawn spot 0 0\nline 0 0 e1", "read spot 0 0\nline 0 0 e1",
]
# The same rows with a rest that tells nothing.
TELL_NOTHING = [
    "outer x", "outer 01", "outer 0 0", "outer  0", "outer 0 ", "outer -", "outer +0", "outer -0", "outer 0\n", "outer \n",
    f"outer 1{GREAT}", "outer  ", "weights x", "weights 1 ", "weights  1", "weights 1  1", "weights -", "weights -1",
    "weights 1001", "weights 01", "weights 1 1001", "weights +1", "weights 1\n1", "weights 1.5", f"weights {GREAT}",
    "weights -0", "weights 1,1", "weights 1 -", "bars x", "bars 41", "bars 00", "bars -1", "bars --", "bars - ", "bars  -",
    "bars -  -", "bars - 41", "bars 1-", "bars None", "bars -\n-", "sets 0", "sets 5", "sets -1", "sets 01", "sets 1 0", "sets --",
    "sets - ", "sets x", "sets  1", "sets 1  1", "sets 1\n", "right x", "right  turns 4 - 4", "right turns 4 - 4 ",
    "right turns 4 - 4\n", "right turns 0 - 4", "right turns 4 x 4", "right turns 4 - 5", "right turns 4  - 4", "keeps x",
    "keeps turns 4 4", "keeps turns 4 - 4 = 1", "keeps turns 4 -", "fewest x", "fewest turns 4 - 4", "fewest turns 4 - 4 = ",
    "fewest turns 4 - 4 =", "fewest turns 4 - 4 =1", "fewest turns 4 - 4= 1", "fewest turns 4 - 4  = 1",
    "fewest turns 4 - 4 =  1", "fewest turns 4 - 4 = 1 ", "fewest turns 4 - 4 = 1  1", "fewest turns 4 - 4 = 1 = 1",
    "fewest turns 4 - 4 = x", "fewest turns 4 - 4 = 01", "fewest turns 4 - 4 = -", "fewest turns 4 - 4 = -0", "fewest  = 1",
    "fewest = 1", "fewest turns 4 - 4\n= 1", "fewest turns 4 - 4 =\n1", "fewest turns 4 - 4 = = 1", "fewest 1 = turns 4 - 4",
    f"fewest turns 4 - 4 = 1{GREAT}", "none x", "none 0 ", "none  0", "none -", "none 01", "none 0\n", "none 0,1", "none 0  1",
    f"none 1{GREAT}", "drawn x", "drawn spot 0 0", "drawn line 0 0 e1", "drawn spot 0 0\nline 0 0 e0", "drawn  spot 0 0\nline 0 0 e1",
    "drawn spot 0 0\nline 0 0 e1\n", "drawn spot 0 0 line 0 0 e1", "read x", "read spot 0 0", "read spot 0 0\nline 0 0 e1 ",
    "read spot 0\nline 0 0 e1", "read spot 0 0\nline 0 0",
]


class Told(unittest.TestCase):
    def setUp(self):
        self.desk = Desk()

    def say(self, row, answer):
        told = self.desk.say(row)
        self.assertIs(type(told), str)
        self.assertEqual(told, answer, row)

    def refuse(self, row, error):
        with self.assertRaises(error, msg=repr(row)):
            self.desk.say(row)

    def keep(self, *rows):
        for row in rows:
            self.say(row, "ok")


class Rows(Told):
    """Which rows there are, and in which order they are refused."""

    NO_ROWS = [
        "", " ", "\n", "  ", "x", "x y", "Map 2", "mapx", "maps 2", " " + TIE, "\n" + TIE, "flat flat", "yes", "ok", "= 1", "-",
        "FLAT", "Outer 0", "outer0", "outer\t0", "weight 1", "turns 4 - 4", "spot 0 0", "tie 0 1", "order 0>", "\tflat", "map\t2",
        "nothing", "drawn\nspot 0 0\nline 0 0 e1", "right\nturns 4 - 4", "none\n0", "weights\n1", "ma p 2", "lot 0", "prices 0",
    ]

    def no_rows(self):
        rows = list(self.NO_ROWS)
        for word in ALONE:
            rows += [word + "\n", word + "\nx", word + " ", " " + word, word.upper(), word + word, word + "\n "]
            if word != "outer":
                rows += [word + " x", word + "  ", word + " 0", word + " \n", word + " " + word]
        for row in WITH_REST:
            word = row.split(" ")[0]
            rows += [word + " ", word + "\n", word + "\n0", " " + row, word.upper() + row[len(word):], word + "s" + row[len(word):]]
            if word != "outer":
                rows.append(word)
        return rows

    def test_no_row_comes_ahead_of_all_else(self):
        for maps in [[], [CROSSING], [TIE], [RING, "outer 1"]]:
            self.desk = Desk()
            self.keep(*maps)
            for row in self.no_rows():
                self.refuse(row, NoRow)

    def test_no_text_comes_ahead_of_no_thing_and_not_flat(self):
        for maps in [[], [CROSSING], [TIE], [RING]]:
            self.desk = Desk()
            self.keep(*maps)
            for row in TELL_NOTHING:
                self.refuse(row, NoText)

    def test_maps_that_are_none(self):
        for maps in [[], [CROSSING], [TIE]]:
            self.desk = Desk()
            self.keep(*maps)
            for row in [
                "map", "map ", "map\n", "map 0", "map 2", "map  2", "map x", TIE + "\n", TIE + " ", "map 2\ntie 0 1\norder 0>",
                "map\n" + TIE[4:], TIE.replace("tie", "ties"), TIE.replace("0>", "0"), "map 2\ntie 0 9\norder 0> \norder 0<",
            ]:
                self.refuse(row, NoText)
            for row in ["map 1\norder", "map 2\ntie 0 2\norder 0>\norder 0<", "map 2\ntie 0 1\norder 0>\norder"]:
                self.refuse(row, NoMap)

    def test_nothing_kept(self):
        for row in ALONE + WITH_REST + ["outer -1", "outer 99", "weights 1 1 1 1", "bars 1 - 40", "sets 1 2 3 4 -", "none -5 7"]:
            self.refuse(row, NoThing)
        # Also behind a map that was refused.
        self.refuse("map 1\norder", NoMap)
        self.refuse("map 1", NoText)
        for row in ALONE + WITH_REST:
            self.refuse(row, NoThing)

    def test_a_map_that_isnt_flat(self):
        self.keep(CROSSING)
        self.say("flat", "no")
        self.say("lands", "0> 1> 0< 1<")
        for row in ALONE[2:] + WITH_REST:
            self.refuse(row, NotFlat)
        # Lists of the wrong length, and lands that there aren't, come behind that.
        for row in ["weights 1 1 1", "bars 1", "sets 1", "outer 99", "outer -1"]:
            self.refuse(row, NotFlat)
        self.keep(TIE)
        self.say("flat", "yes")

    def test_lists_of_the_wrong_length(self):
        self.keep(RING)
        for row in [
            "weights 1", "weights 1 1", "weights 1 1 1 1", "bars -", "bars - -", "bars - - - -", "bars 1 2 3 4", "sets -",
            "sets - - -", "sets - - - - -", "sets - - - - - - -", "weights 1 1 1 1 1 1",
        ]:
            self.refuse(row, NoText)
        self.say("wishes", "1 1 1; - - -; - - - - - -")

    def test_no_land(self):
        self.keep(RING)
        for row in ["outer 2", "outer -1", "outer -2", "outer 10", f"outer {GREAT}", f"outer -{GREAT}"]:
            self.refuse(row, NoLand)
            self.say("outer", "0")

    def test_no_picture(self):
        # A straight path; from its first place to its last one it is 60 long, and then 61.
        for many, right in [(61, True), (62, False)]:
            ties = [(place, place + 1) for place in range(many - 1)]
            orders = [[0]] + [[2 * place - 1, 2 * place] for place in range(1, many - 1)] + [[2 * many - 3]]
            sets = ["-"] * (2 * many - 2)
            for place in range(1, many - 1):
                # Both corners at each place within.
                sets[2 * place - 2] = "2"
                sets[2 * place + 1] = "2"
            self.keep(show_map((many, ties, orders)), "sets " + " ".join(sets))
            self.say("cost", "0")
            self.say("lengths", f"{many - 1} 0")
            if right:
                self.assertEqual(self.desk.say("picture")[:6], "0-1-2-")
            else:
                self.refuse("picture", NoPicture)
                self.say("cost", "0")

    def test_what_is_refused_changes_nothing(self):
        self.keep(RING, "outer 1", "weights 5 6 7", "bars - 3 -", "sets - - 1 - - -")
        before = [self.desk.say(row) for row in ALONE]
        refused = self.no_rows() + TELL_NOTHING + [
            "outer 2", "outer -1", "weights 1", "weights 1 2 3 4", "bars -", "sets -", "sets 1 2 3 4 1 2 3", "map 1\norder",
            "map 2", RING + "\n", RING.replace("tie 0 1", "tie 0 7"),
        ]
        for number, row in enumerate(refused):
            with self.assertRaises(ValueError):
                self.desk.say(row)
            if number % 20 == 0:
                self.assertEqual([self.desk.say(row) for row in ALONE], before)
        self.assertEqual([self.desk.say(row) for row in ALONE], before)

    def test_an_error_is_of_its_class_alone(self):
        for row, error in [("", NoRow), ("outer x", NoText), ("flat", NoThing), ("map 1\norder", NoMap)]:
            try:
                self.desk.say(row)
            except ValueError as told:
                self.assertIs(type(told), error)


class ByHand(Told):
    def test_a_tie_alone(self):
        self.keep(TIE)
        self.say("flat", "yes")
        self.say("lands", "0> 0<")
        self.say("outer", "0")
        self.say("wishes", "1; -; - -")
        self.say("cost", "0")
        self.say("shape", "turns 4 - 4")
        self.say("best", "0 0")
        self.say("breadths", "3 2")
        self.say("lengths", "1 0")
        self.say("drawing", "spot 1 1\nspot 2 1\nline 1 1 e1")
        self.say("picture", "0-1")
        spots, lines = read_drawing(self.desk.say("short"))
        self.assertEqual((lines, spots[1]), ([spots], (spots[0][0] + 1, spots[0][1])))
        word, *prices = self.desk.say("paper").split(" ")
        self.assertEqual((word, len(prices)), ("prices", 3))
        self.say("fewest turns 4 - 4 = " + " ".join(prices), "yes")

    def test_none(self):
        # A place of one end has a corner of 4 there.
        self.keep(TIE, "sets 3 -")
        self.say("wishes", "1; -; 3 -")
        for row in ["cost", "shape", "best", "breadths", "lengths", "drawing", "short", "picture"]:
            self.say(row, "none")
        word, *lot = self.desk.say("paper").split(" ")
        self.assertEqual(word, "lot")
        self.say("none " + " ".join(lot), "yes")
        self.keep("sets 4 -")
        self.say("cost", "0")
        self.say("none " + " ".join(lot), "no")

    def test_a_loop_with_bars(self):
        self.keep(LOOP)
        self.say("lands", "0>; 0<")
        self.say("cost", "3")
        self.say("best", "0 3")
        self.say("shape", "turns 3 rrr 1")
        self.say("breadths", "3 3")
        self.say("lengths", "2 2")
        self.say("picture", "0-+\n| |\n+-+")
        self.keep("outer 1")
        self.say("shape", "turns 1 lll 3")
        self.say("picture", "+-+\n| |\n0-+")
        self.say("drawing", "spot 1 1\nline 1 1 e1 n1 w1 s1")
        self.keep("weights 7")
        self.say("cost", "21")
        self.say("best", "0 21")
        self.keep("bars 3")
        self.say("cost", "21")
        self.keep("bars 2")
        self.say("cost", "none")
        self.say("best", "none")
        # The knots are the place, the land 0 and the land 1, which is the outer one.
        self.say("none 1", "yes")
        self.say("none 0", "no")
        self.say("none 2", "no")
        self.say("none 1 1", "no")
        self.say("none 3", "no")
        self.say("none -2", "no")
        self.keep("bars -")
        self.say("none 1", "no")

    def test_a_ring(self):
        self.keep(RING)
        self.say("lands", "0> 1> 2>; 0< 2< 1<")
        self.say("cost", "1")
        self.say("best", "0 1")
        self.keep("outer 1", "weights 3 5 5")
        self.say("outer", "1")
        self.say("shape", RING_SHAPE)
        self.say("cost", "3")
        self.say("best", "0 3")
        self.say("picture", "2-1\n| |\n0-+")
        self.say("breadths", "3 3")
        self.say("lengths", "2 2")
        drawing = "spot 1 1\nspot 2 2\nspot 1 2\nline 1 1 e1 n1\nline 2 2 w1\nline 1 2 s1"
        self.say("drawing", drawing)
        self.say("drawn " + drawing, "yes")
        self.say("read " + drawing, RING_SHAPE)
        self.keep("bars 0 - 0")
        self.say("shape", "turns 1 - 3\nturns 1 l 3\nturns 1 - 3")
        self.say("cost", "5")
        self.keep("bars 0 0 0")
        self.say("cost", "none")
        self.say("paper", "lot 3")
        self.say("none 3", "yes")

    def test_shapes_that_are_told(self):
        self.keep(RING, "outer 1")
        for row in ["right", "keeps"]:
            self.say(f"{row} {RING_SHAPE}", "yes")
            self.say(f"{row} turns 1 - 3\nturns 1 - 3\nturns 1 - 3", "no")
            self.say(f"{row} turns 3 r 1\nturns 3 - 1\nturns 3 - 1", "no")
            # Of other counts than the map's.
            self.say(f"{row} turns 4 - 4", "no")
            self.say(f"{row} {RING_SHAPE}\nturns 1 - 3", "no")
            # Turns in any order, and more of them than are needed.
            self.say(f"{row} turns 1 rll 3\nturns 1 - 3\nturns 1 - 3", "yes")
            self.say(f"{row} turns 1 lrl 3\nturns 1 - 3\nturns 1 - 3", "yes")
        self.keep("bars 1 0 0")
        self.say(f"keeps {RING_SHAPE}", "yes")
        self.say("keeps turns 1 lrl 3\nturns 1 - 3\nturns 1 - 3", "no")
        self.say("right turns 1 lrl 3\nturns 1 - 3\nturns 1 - 3", "yes")
        self.say("keeps turns 1 - 3\nturns 1 l 3\nturns 1 - 3", "no")
        self.say("right turns 1 - 3\nturns 1 l 3\nturns 1 - 3", "yes")
        self.keep("sets 1 - - - - 3")
        self.say(f"keeps {RING_SHAPE}", "yes")
        self.keep("sets 2 - - - - -")
        self.say(f"keeps {RING_SHAPE}", "no")
        self.say(f"right {RING_SHAPE}", "yes")
        self.keep("outer 0")
        self.say(f"right {RING_SHAPE}", "no")

    def test_fewest(self):
        self.keep(RING, "outer 1")
        prices = self.desk.say("paper").partition(" ")[2]
        self.say(f"fewest {RING_SHAPE} = {prices}", "yes")
        self.say(f"fewest {RING_SHAPE} = {prices} 0", "no")
        self.say(f"fewest {RING_SHAPE} = 0", "no")
        self.say(f"fewest {RING_SHAPE} = 0 0 0 0 0", "no")
        self.say(f"fewest turns 4 - 4 = {prices}", "no")
        self.say(f"fewest turns 1 llr 3\nturns 1 - 3\nturns 1 - 3 = {prices}", "no")
        # By hand: a quarter more is worth 1 in the land 0 than in the land 1.
        self.say(f"fewest {RING_SHAPE} = 0 0 0 1 0", "yes")
        self.say(f"fewest {RING_SHAPE} = -7 -7 -7 -6 -7", "yes")
        self.say(f"fewest {RING_SHAPE} = {GREAT} 0 0 1 0", "no")
        self.keep("weights 2 2 2")
        self.say(f"fewest {RING_SHAPE} = 0 0 0 1 0", "no")
        self.say(f"fewest {RING_SHAPE} = 0 0 0 2 0", "yes")

    def test_drawings_that_are_told(self):
        self.keep(RING, "outer 1")
        self.say("drawn " + RING_DRAWING, "yes")
        self.say("read " + RING_DRAWING, RING_SHAPE)
        self.keep("outer 0")
        self.say("drawn " + RING_DRAWING, "no")
        self.say("read " + RING_DRAWING, "no")
        self.keep("outer 1")
        for wrong in [
            "spot 0 0\nline 0 0 e1", RING_DRAWING + "\nline 0 0 w1", "spot 5 5\n" + RING_DRAWING,
            RING_DRAWING.replace("e1 n1", "n1 e1"), RING_DRAWING.replace("e1", "e2"), RING_DRAWING.replace("e1 n1", "e1 e1 w1 n1"),
        ]:
            self.say("drawn " + wrong, "no")
            self.say("read " + wrong, "no")
        # Wishes are of no matter to what is right.
        self.keep("bars 0 0 0")
        self.say("drawn " + RING_DRAWING, "yes")
        self.say("read " + RING_DRAWING, RING_SHAPE)
        # What turns in another order is shown with the turns to the left first.
        self.keep(TIE)
        self.say("read spot 0 0\nspot 2 -2\nline 0 0 s1 e1 s1 e1", "turns 4 llr 4")
        self.say("read spot 0 0\nspot 2 2\nline 0 0 n1 e1 n1 e1", "turns 4 lrr 4")


class Kept(Told):
    def test_a_new_map_puts_all_back(self):
        self.keep(RING, "outer 1", "weights 5 6 7", "bars 1 2 3", "sets 1 - - - - 4")
        self.say("outer", "1")
        self.say("wishes", "5 6 7; 1 2 3; 1 - - - - 4")
        self.keep(RING)
        self.say("outer", "0")
        self.say("wishes", "1 1 1; - - -; - - - - - -")
        self.keep("outer 1", "weights 5 6 7", TIE)
        self.say("outer", "0")
        self.say("wishes", "1; -; - -")
        self.keep(CROSSING, RING)
        self.say("outer", "0")

    def test_each_list_alone(self):
        self.keep(RING)
        self.keep("weights 0 1000 7")
        self.say("wishes", "0 1000 7; - - -; - - - - - -")
        self.keep("bars 0 - 40")
        self.say("wishes", "0 1000 7; 0 - 40; - - - - - -")
        self.keep("sets 1 2 3 4 - 1")
        self.say("wishes", "0 1000 7; 0 - 40; 1 2 3 4 - 1")
        self.keep("outer 1")
        self.say("wishes", "0 1000 7; 0 - 40; 1 2 3 4 - 1")
        self.keep("weights 1 1 2")
        self.say("wishes", "1 1 2; 0 - 40; 1 2 3 4 - 1")
        self.say("outer", "1")
        self.keep("bars - - -")
        self.say("wishes", "1 1 2; - - -; 1 2 3 4 - 1")
        self.say("outer", "1")
        self.keep("sets - - - - - -")
        self.say("wishes", "1 1 2; - - -; - - - - - -")
        self.say("outer", "1")
        self.keep("outer 0")
        self.say("outer", "0")

    def test_numbers_just_at_and_beyond_their_bounds(self):
        self.keep(TIE)
        for row in ["weights 0", "weights 1000", "bars 0", "bars 40", "bars -", "sets 1 4", "sets - 1", "sets 4 -", "outer 0"]:
            self.keep(row)
        for row in [
            "weights 1001", "weights -1", "weights -", "bars 41", "bars -1", "sets 0 1", "sets 1 5", "sets 1 -1", "weights 00", "bars 040",
            "sets 01 1", f"weights {GREAT}", f"bars {GREAT}", f"sets 1 {GREAT}", f"weights 1{GREAT}", f"outer 1{GREAT}", "outer 00",
        ]:
            self.refuse(row, NoText)
        self.refuse(f"outer {GREAT}", NoLand)

    def test_asked_again_behind_others(self):
        self.keep(RING, "outer 1", "weights 1 2 3")
        first = [self.desk.say(row) for row in ALONE]
        for row in [RING_SHAPE, "turns 4 - 4"]:
            self.desk.say("right " + row)
            self.desk.say("keeps " + row)
        self.desk.say("drawn " + RING_DRAWING)
        self.desk.say("read " + RING_DRAWING)
        self.desk.say("none 3")
        self.desk.say(f"fewest {RING_SHAPE} = 1 2 3")
        self.assertEqual([self.desk.say(row) for row in reversed(ALONE)], first[::-1])
        # Other wishes, and back again.
        self.keep("weights 9 9 1", "bars 0 0 -", "outer 0")
        self.assertNotEqual([self.desk.say(row) for row in ALONE], first)
        self.keep("weights 1 2 3", "bars - - -", "outer 1")
        self.assertEqual([self.desk.say(row) for row in ALONE], first)

    def test_two_desks_at_once(self):
        other = Desk()
        self.keep(RING, "outer 1")
        with self.assertRaises(NoThing):
            other.say("flat")
        self.assertEqual(other.say(LOOP), "ok")
        self.keep("weights 5 5 5")
        self.assertEqual(other.say("wishes"), "1; -; - -")
        self.say("wishes", "5 5 5; - - -; - - - - - -")
        self.assertEqual(other.say("outer"), "0")
        self.say("outer", "1")
        self.assertEqual(other.say("bars 2"), "ok")
        self.assertEqual(other.say("cost"), "none")
        self.say("cost", "5")


def shown(numbers):
    return " ".join("-" if number is None else str(number) for number in numbers)


def answers(web, outer, wishes):
    """What the functions of the stages tell, as the desk must say it."""
    told = {
        "flat": "yes" if is_flat(web) else "no",
        "lands": "; ".join(" ".join(f"{end // 2}{'><'[end % 2]}" for end in land) for land in lands(web)),
        "outer": str(outer), "wishes": "; ".join(shown(part) for part in wishes),
    }
    land, shape, papers = best_outer(web, wishes)
    told["best"] = "none" if land is None else f"{land} {cost(wishes, shape)}"
    found = fewest(web, outer, wishes)
    if found[0] == "none":
        told["paper"] = "lot " + shown(found[1])
        told.update({row: "none" for row in ["cost", "shape", "breadths", "lengths", "drawing", "short", "picture"]})
        return told
    shape = found[1]
    parting = parted(laid_out(web, outer, shape)[0])
    told["paper"] = "prices " + shown(found[2])
    told["cost"] = str(cost(wishes, shape))
    told["shape"] = show_shape(shape)
    told["breadths"] = shown([breadth(parting, 0), breadth(parting, 1)])
    told["lengths"] = shown([length(parting, way, shortest(parting, way)[0]) for way in [0, 1]])
    told["drawing"] = show_drawing(narrowest(web, outer, shape))
    told["short"] = show_drawing(shortest_drawn(web, outer, shape))
    told["picture"] = "\n".join(picture(narrowest(web, outer, shape)))
    return told


class AsTheFunctionsTell(Told):
    def test_many_maps_and_wishes(self):
        seen = {True: 0, False: 0}
        for seed in range(40):
            many = 2 + seed % 9
            web = samples.drawn_map(seed, many, min(many + seed % 7, 2 * many - 1))
            self.keep(show_map(web))
            for outer in [0, len(lands(web)) - 1]:
                for wishes in [
                    samples.free_wishes(web), samples.drawn_wishes(seed, web, 1000, None, 0), samples.drawn_wishes(seed, web, 9, 3, 1),
                ]:
                    self.keep(f"outer {outer}", "weights " + shown(wishes[0]), "bars " + shown(wishes[1]), "sets " + shown(wishes[2]))
                    wanted = answers(web, outer, wishes)
                    for row in ALONE:
                        self.say(row, wanted[row])
                    seen[wanted["cost"] == "none"] += 1
                    self.look_at_papers(web, outer, wishes, wanted)
        self.assertGreater(min(seen.values()), 10)

    def look_at_papers(self, web, outer, wishes, wanted):
        word, *numbers = wanted["paper"].split(" ")
        numbers = [int(number) for number in numbers]
        if word == "lot":
            self.say("none " + shown(numbers), "yes")
            self.assertTrue(shows_none(web, outer, wishes, numbers))
            self.say("none " + shown(numbers + [0]), "yes" if shows_none(web, outer, wishes, numbers + [0]) else "no")
            return
        shape = read_shape(wanted["shape"])
        self.say("right " + wanted["shape"], "yes")
        self.say("keeps " + wanted["shape"], "yes")
        self.assertTrue(is_shape(web, outer, shape) and keeps(wishes, shape))
        self.say(f"fewest {wanted['shape']} = {shown(numbers)}", "yes")
        off = [numbers[0] + 1] + numbers[1:]
        self.say(f"fewest {wanted['shape']} = {shown(off)}", "yes" if shows_fewest(web, outer, wishes, shape, off) else "no")
        for row in ["drawing", "short"]:
            self.say("drawn " + wanted[row], "yes")
            self.say("read " + wanted[row], wanted["shape"])
            drawing = read_drawing(wanted[row])
            self.assertTrue(is_drawing(web, outer, drawing))
            self.assertEqual(show_shape(shape_of(web, drawing)), wanted["shape"])

    def test_rows_up_to_their_bounds(self):
        # Ten places and sixteen ties; a row of up to six thousand signs.
        web = samples.drawn_map(3, 10, 16)
        self.keep(show_map(web))
        wanted = answers(web, 0, samples.free_wishes(web))
        for row in ALONE:
            self.say(row, wanted[row])
        self.say("right turns 1 " + 5980 * "l" + " 1", "no")
        self.say("drawn spot 0 0\nline 0 0" + 1900 * " e1", "no")


if __name__ == "__main__":
    unittest.main()
