"""The rows of a desk that ask of what is kept: point 34 of the document."""

from fewbends.drawings import narrowest, parting_of, shortest_drawn
from fewbends.fewest import cost, fewest
from fewbends.kept import check_kept, check_kept_flat
from fewbends.lengths import length, shortest
from fewbends.lines import breadth
from fewbends.maps import is_flat, lands
from fewbends.outers import best_outer
from fewbends.pictures import picture
from fewbends.texts import show_drawing, show_ends, show_shape
from fewbends.words import show_numbers, yes_or_no


def say_flat(kept):
    return yes_or_no(is_flat(kept[0]))


def say_lands(kept):
    return "; ".join([show_ends(land) for land in lands(kept[0])])


def say_outer(kept):
    return str(kept[1])


def say_wishes(kept):
    return "; ".join([show_numbers(wished) for wished in kept[2]])


def say_cost(kept, shape):
    return str(cost(kept[2], shape))


def say_shape(kept, shape):
    return show_shape(shape)


def say_paper(kept):
    told = fewest(kept[0], kept[1], kept[2])
    if told[0] == "shape":
        return "prices " + show_numbers(told[2])
    return "lot " + show_numbers(told[1])


def say_best(kept):
    told = best_outer(kept[0], kept[2])
    if told[0] is None:
        return "none"
    return show_numbers([told[0], cost(kept[2], told[1])])


def say_breadths(kept, shape):
    parting = parting_of(kept[0], kept[1], shape)
    return show_numbers([breadth(parting, way) for way in (0, 1)])


def say_lengths(kept, shape):
    parting = parting_of(kept[0], kept[1], shape)
    return show_numbers([length(parting, way, shortest(parting, way)[0]) for way in (0, 1)])


def say_drawing(kept, shape):
    return show_drawing(narrowest(kept[0], kept[1], shape))


def say_short(kept, shape):
    return show_drawing(shortest_drawn(kept[0], kept[1], shape))


def say_picture(kept, shape):
    return "\n".join(picture(narrowest(kept[0], kept[1], shape)))


OF_ANY_MAP = {"flat": say_flat, "lands": say_lands}
OF_FLAT_MAPS = {"outer": say_outer, "wishes": say_wishes, "paper": say_paper, "best": say_best}
# Each of these is answered none where there is no shape that keeps the wishes.
OF_THE_SHAPE = {
    "cost": say_cost, "shape": say_shape, "breadths": say_breadths, "lengths": say_lengths,
    "drawing": say_drawing, "short": say_short, "picture": say_picture,
}


def is_asked(word):
    return word in OF_ANY_MAP or word in OF_FLAT_MAPS or word in OF_THE_SHAPE


def answer_of(word, kept):
    if word in OF_ANY_MAP:
        check_kept(kept)
        return OF_ANY_MAP[word](kept)
    check_kept_flat(kept)
    if word in OF_FLAT_MAPS:
        return OF_FLAT_MAPS[word](kept)
    told = fewest(kept[0], kept[1], kept[2])
    if told[0] == "none":
        return "none"
    return OF_THE_SHAPE[word](kept, told[1])
