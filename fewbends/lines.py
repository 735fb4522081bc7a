"""Lines of a parting, their least numbers and what shows them: points 21 and 22 of the document.

A way is 0 (from west to east) or 1 (from south to north).
"""


def lines_of(parting, way):
    near = places_in_line(parting[0], way)
    told = []
    seen = [False for place in near]
    # Places are tried from the least on, so the lines come in the order of their least ones.
    for first in range(len(near)):
        if not seen[first]:
            line = line_from(near, first)
            for place in line:
                seen[place] = True
            told.append(line)
    return told


# For each place those that are tied to it across the way.
def places_in_line(laid, way):
    near = [[] for place in range(laid[0])]
    for tie, head in zip(laid[1], laid[2]):
        if not heads_along(head, way):
            near[tie[0]].append(tie[1])
            near[tie[1]].append(tie[0])
    return near


def heads_along(head, way):
    return head % 2 == way


def line_from(near, first):
    reached = {first: True}
    waiting = [first]
    while waiting:
        place = waiting.pop()
        for neighbour in near[place]:
            if neighbour not in reached:
                reached[neighbour] = True
                waiting.append(neighbour)
    return sorted(reached)


# For each place the number of its line.
def line_numbers(parting, way):
    numbers = [0 for place in range(parting[0][0])]
    for number, line in enumerate(lines_of(parting, way)):
        for place in line:
            numbers[place] = number
    return numbers


def steps_of(parting, way):
    numbers = line_numbers(parting, way)
    laid = parting[0]
    steps = []
    for tie, head, piece in zip(laid[1], laid[2], parting[1]):
        if heads_along(head, way):
            line = numbers[tie[0]]
            other = numbers[tie[1]]
            # By its first end it heads either onward by the way or back against it.
            steps.append((line, other, piece) if head == way else (other, line, piece))
    return steps


def rises(parting, way, numbers):
    if len(numbers) != len(lines_of(parting, way)):
        return False
    return all([numbers[line] < numbers[other] for line, other, piece in steps_of(parting, way)])


def least_numbers(parting, way):
    numbers = [0 for line in lines_of(parting, way)]
    onward = [[] for line in numbers]
    missing = [0 for line in numbers]
    for line, other, piece in steps_of(parting, way):
        onward[line].append(other)
        missing[other] += 1
    waiting = [line for line, count in enumerate(missing) if count == 0]
    # A line's turn comes when all lines ahead of it have their numbers: steps lead round nowhere.
    while waiting:
        line = waiting.pop()
        for other in onward[line]:
            numbers[other] = max(numbers[other], numbers[line] + 1)
            missing[other] -= 1
            if missing[other] == 0:
                waiting.append(other)
    return numbers


def chain_of(parting, way, line):
    numbers = least_numbers(parting, way)
    steps = steps_of(parting, way)
    last = {}
    for place, step in enumerate(steps):
        if numbers[step[1]] == numbers[step[0]] + 1:
            last[step[1]] = place
    chain = []
    at = line
    while numbers[at] > 0:
        chain.append(last[at])
        at = steps[last[at]][0]
    chain.reverse()
    return chain


def is_chain(parting, way, line, chain):
    steps = steps_of(parting, way)
    if not all([0 <= place < len(steps) for place in chain]):
        return False
    begins = [steps[place][0] for place in chain]
    ends = [steps[place][1] for place in chain]
    # Behind each step begins the one that follows, and behind the last one lies the line.
    return ends == begins[1:] + [line] if chain else True


def breadth(parting, way):
    return max(least_numbers(parting, way))
