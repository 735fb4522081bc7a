"""What a desk keeps: a tuple (web, outer, wishes), or None at first; points 32 and 33 of the document."""

from fewbends.errors import NotFlat, NoThing
from fewbends.maps import is_flat


def newly_kept(web):
    count = len(web[1])
    return (web, 0, ([1] * count, [None] * count, [None] * (2 * count)))


def check_kept(kept):
    if kept is None:
        raise NoThing("no map is kept")


def check_kept_flat(kept):
    check_kept(kept)
    if not is_flat(kept[0]):
        raise NotFlat("the map that is kept isn't flat")
