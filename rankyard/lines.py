"""Lines: all things, one behind the other, each behind all that stands under it."""

from rankyard.errors import NoLine
from rankyard.heads import head_of, heads, holds_all
from rankyard.things import lowers_of, upwards


# Whichever thing that may come next does, the rest can be put behind it: so the least one of them comes.
def first_line(yard):
    lowers = lowers_of(yard[1])
    line = []
    left = list(range(yard[0]))
    while left:
        least = min([thing for thing in left if holds_all(line, lowers.get(thing, {}))])
        line.append(least)
        left.remove(least)
    return tuple(line)


# In how many ways one comes up to a head from those of one thing less: without one of its tops it is a head still,
# and without any other one of its things it is none, to which no way is known.
def ways_up_to(ways, head):
    return sum([ways.get(head[:k] + head[k + 1:], 0) for k in range(len(head))])


# As many as there are ways up from head to head: of 12 things there are no more than 4096 heads, but up to 479001600
# lines, too many to go through.
def lines(yard):
    ways = {(): 1}
    for head in heads(yard):
        if head:
            ways[head] = ways_up_to(ways, head)
    return ways[tuple(range(yard[0]))]


# All that must come ahead of one is put ahead of everything else: where other is not of that, it comes behind.
def line_with(yard, one, other):
    order = upwards(yard[0], lowers_of(yard[1]))
    ahead = head_of(yard, (one,))
    behind = [thing for thing in order if thing not in ahead]
    if one not in order or other not in behind:
        raise NoLine(f"there is no line in which {one!r} comes ahead of {other!r}")
    return tuple([thing for thing in order if thing in ahead] + behind)
