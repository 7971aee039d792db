"""How high each thing of a yard stands: its floors, and a tower that reaches the topmost one."""

from rankyard.things import lowers_of, upwards


# How many things the tallest tower that ends with a thing has below that thing.
def heights_of(count, lowers):
    heights = {}
    for thing in upwards(count, lowers):
        heights[thing] = 1 + max([heights[under] for under in lowers.get(thing, {})], default=-1)
    return heights


def row_at(heights, height):
    return tuple([thing for thing in sorted(heights) if heights[thing] == height])


def floors(yard):
    heights = heights_of(yard[0], lowers_of(yard[1]))
    rows = []
    row = row_at(heights, 0)
    while row:
        rows.append(row)
        row = row_at(heights, len(rows))
    return tuple(rows)


# Gone from the topmost floor downwards: a thing stands on its floor because of one on the floor below.
def tallest(yard):
    lowers = lowers_of(yard[1])
    found = []
    for row in reversed(floors(yard)):
        fitting = [thing for thing in row if not found or thing in lowers[found[-1]]]
        found.append(fitting[0])
    return tuple(reversed(found))
