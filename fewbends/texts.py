"""Maps, shapes and drawings as texts: points 27 and 28 of the document."""

from fewbends.errors import NoText
from fewbends.headings import point_beyond, step_heading, step_length
from fewbends.maps import check_map
from fewbends.words import read_number, read_numbers, show_numbers

# The first sign stands behind a tie's number for its first end, the second one for its second end.
SIDES = "><"
CORNERS = ("1", "2", "3", "4")
# By headings, from east on round to the left.
HEADING_LETTERS = "enws"


def show_map(web):
    rows = ["map " + str(web[0])]
    for tie in web[1]:
        rows.append("tie " + show_numbers(tie))
    for order in web[2]:
        # An order may have no ends, and then no blank stands behind its word.
        rows.append(" ".join(["order"] + [show_end(end) for end in order]))
    return "\n".join(rows)


def show_ends(ends):
    return " ".join([show_end(end) for end in ends])


def show_end(end):
    return str(end // 2) + SIDES[end % 2]


def show_shape(shape):
    corners = shape[0]
    lefts = shape[1]
    rows = []
    for first in range(0, len(corners), 2):
        turning = "l" * lefts[first] + "r" * lefts[first + 1]
        rows.append(" ".join(["turns", str(corners[first]), turning or "-", str(corners[first + 1])]))
    return "\n".join(rows)


def show_drawing(drawing):
    rows = ["spot " + show_numbers(spot) for spot in drawing[0]]
    for line in drawing[1]:
        steps = [show_step(point, onward) for point, onward in zip(line, line[1:])]
        rows.append(" ".join(["line", show_numbers(line[0])] + steps))
    return "\n".join(rows)


def show_step(point, onward):
    return HEADING_LETTERS[step_heading(point, onward)] + str(step_length(point, onward))


def refuse_unless(told):
    if not told:
        raise NoText("it is no such text")


def rows_of(text):
    return [row.split(" ") for row in text.split("\n")]


# The words behind the first one, of the rows from a place on that begin with this word.
def rows_from(rows, place, word):
    told = []
    for row in rows[place:]:
        if row[0] != word:
            return told
        told.append(row[1:])
    return told


def read_map(text):
    rows = rows_of(text)
    begin = rows_from(rows, 0, "map")
    ties = rows_from(rows, 1, "tie")
    orders = rows_from(rows, 1 + len(ties), "order")
    refuse_unless(len(begin) == 1 and orders and 1 + len(ties) + len(orders) == len(rows))
    many = read_so_many(begin[0], 1)[0]
    refuse_unless(many == len(orders))
    web = (many, [read_pair(words) for words in ties], [read_ends(words) for words in orders])
    check_map(web)
    return web


def read_so_many(words, count):
    refuse_unless(len(words) == count)
    return read_numbers(words)


def read_pair(words):
    numbers = read_so_many(words, 2)
    return (numbers[0], numbers[1])


def read_ends(words):
    return [read_end(word) for word in words]


def read_end(word):
    # Without a sign there is no number ahead of it either, so that word is refused below.
    side = SIDES.find(word[-1:])
    refuse_unless(side >= 0)
    return 2 * read_number(word[:-1]) + side


def read_shape(text):
    corners = []
    lefts = []
    for words in rows_of(text):
        refuse_unless(len(words) == 4 and words[0] == "turns")
        refuse_unless(words[1] in CORNERS and words[3] in CORNERS)
        corners.extend(read_numbers([words[1], words[3]]))
        lefts.extend(read_turns(words[2]))
    return (corners, lefts)


# How many turns a word has to the left, and how many to the right.
def read_turns(word):
    if word == "-":
        return [0, 0]
    refuse_unless(word and word.count("l") + word.count("r") == len(word))
    return [word.count("l"), word.count("r")]


def read_drawing(text):
    rows = rows_of(text)
    spots = rows_from(rows, 0, "spot")
    lines = rows_from(rows, len(spots), "line")
    refuse_unless(spots and lines and len(spots) + len(lines) == len(rows))
    return ([read_pair(words) for words in spots], [read_line(words) for words in lines])


def read_line(words):
    point = read_pair(words[:2])
    refuse_unless(len(words) > 2)
    line = [point]
    for word in words[2:]:
        point = read_step(point, word)
        line.append(point)
    return line


def read_step(point, word):
    # Without a letter there is no number behind it either, so that word is refused below.
    head = HEADING_LETTERS.find(word[:1])
    refuse_unless(head >= 0)
    by = read_number(word[1:])
    refuse_unless(by >= 1)
    return point_beyond(point, head, by)
