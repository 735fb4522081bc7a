"""The rows of a desk with a rest: those that keep something and those that look at something.

Points 33 and 35 of the document. Each reads its rest ahead of looking at what is kept, since a
rest that tells nothing is refused first.
"""

from fewbends.drawings import is_drawing, shape_of
from fewbends.errors import NoLand, NoText
from fewbends.fewest import keeps, shows_fewest, shows_none
from fewbends.kept import check_kept_flat
from fewbends.maps import lands
from fewbends.shapes import is_shape
from fewbends.texts import read_drawing, read_shape, show_shape
from fewbends.words import read_number, read_numbers, yes_or_no

MOST_WEIGHT = 1000
MOST_BAR = 40
MOST_CORNER = 4


def keep_outer(kept, rest):
    outer = read_number(rest)
    check_kept_flat(kept)
    if not 0 <= outer < len(lands(kept[0])):
        raise NoLand("the map has no land of that number")
    return (kept[0], outer, kept[2])


def keep_weights(kept, rest):
    weights = [read_within(word, 0, MOST_WEIGHT) for word in rest.split(" ")]
    check_kept_flat(kept)
    check_count(weights, len(kept[0][1]))
    return (kept[0], kept[1], (weights, kept[2][1], kept[2][2]))


def keep_bars(kept, rest):
    bars = [read_or_none(word, 0, MOST_BAR) for word in rest.split(" ")]
    check_kept_flat(kept)
    check_count(bars, len(kept[0][1]))
    return (kept[0], kept[1], (kept[2][0], bars, kept[2][2]))


def keep_sets(kept, rest):
    sets = [read_or_none(word, 1, MOST_CORNER) for word in rest.split(" ")]
    check_kept_flat(kept)
    check_count(sets, 2 * len(kept[0][1]))
    return (kept[0], kept[1], (kept[2][0], kept[2][1], sets))


def read_within(word, least, most):
    number = read_number(word)
    if not least <= number <= most:
        raise NoText("a number is out of its bounds")
    return number


def read_or_none(word, least, most):
    return None if word == "-" else read_within(word, least, most)


def check_count(numbers, count):
    if len(numbers) != count:
        raise NoText("there are more or fewer numbers than told")


def say_right(kept, rest):
    shape = read_shape(rest)
    check_kept_flat(kept)
    return yes_or_no(is_shape(kept[0], kept[1], shape))


def say_keeps(kept, rest):
    shape = read_shape(rest)
    check_kept_flat(kept)
    return yes_or_no(is_shape(kept[0], kept[1], shape) and keeps(kept[2], shape))


def say_fewest(kept, rest):
    # Where there is no such sign the last part is empty, and no list of numbers.
    parts = rest.partition(" = ")
    shape = read_shape(parts[0])
    prices = read_numbers(parts[2].split(" "))
    check_kept_flat(kept)
    return yes_or_no(shows_fewest(kept[0], kept[1], kept[2], shape, prices))


def say_none(kept, rest):
    lot = read_numbers(rest.split(" "))
    check_kept_flat(kept)
    return yes_or_no(shows_none(kept[0], kept[1], kept[2], lot))


def say_drawn(kept, rest):
    drawing = read_drawing(rest)
    check_kept_flat(kept)
    return yes_or_no(is_drawing(kept[0], kept[1], drawing))


def say_read(kept, rest):
    drawing = read_drawing(rest)
    check_kept_flat(kept)
    if not is_drawing(kept[0], kept[1], drawing):
        return "no"
    return show_shape(shape_of(kept[0], drawing))


KEEPING = {"outer": keep_outer, "weights": keep_weights, "bars": keep_bars, "sets": keep_sets}
LOOKING = {
    "right": say_right, "keeps": say_keeps, "fewest": say_fewest, "none": say_none,
    "drawn": say_drawn, "read": say_read,
}


def is_keeping(word):
    return word in KEEPING


def kept_by(word, kept, rest):
    return KEEPING[word](kept, rest)


def is_looking(word):
    return word in LOOKING


def look_by(word, kept, rest):
    return LOOKING[word](kept, rest)
