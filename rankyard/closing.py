"""From pairs that are told to a yard or a ring, and from a yard back to the fewest pairs that tell it."""

from rankyard.things import uppers_of


# Each thing that the steps up from start come to, with the thing from which they came to it first:
# only the first is kept, so that the way back has no thing twice. Start is there only where a ring leads to it.
def reached_from(uppers, start):
    came_from = {}
    waiting = [start]
    while waiting:
        thing = waiting.pop()
        for upper in uppers.get(thing, {}):
            if upper not in came_from:
                came_from[upper] = thing
                waiting.append(upper)
    return came_from


def ring_through(came_from, start):
    ring = [start]
    thing = came_from[start]
    while thing != start:
        ring.append(thing)
        thing = came_from[thing]
    # The way was gone downwards, and a ring is told upwards.
    return tuple(reversed(ring))


def closed(count, pairs):
    uppers = uppers_of(pairs)
    all_pairs = []
    for under in sorted(uppers):
        came_from = reached_from(uppers, under)
        if under in came_from:
            return ("ring", ring_through(came_from, under))
        all_pairs.extend([(under, over) for over in sorted(came_from)])
    return ("yard", (count, tuple(all_pairs)))


def is_anything_between(uppers, under, over):
    return any([over in uppers.get(middle, {}) for middle in uppers[under]])


def covers(yard):
    pairs = yard[1]
    uppers = uppers_of(pairs)
    return tuple([pair for pair in pairs if not is_anything_between(uppers, pair[0], pair[1])])
