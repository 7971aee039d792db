"""Heads: some things together with all that stands under them, and the tops by which they are told."""

from rankyard.errors import NoHead
from rankyard.things import is_number_below, is_rising, lowers_of, uppers_of, upwards


def head_of(yard, things):
    lowers = lowers_of(yard[1])
    held = {}
    for thing in things:
        held[thing] = True
        held.update(lowers.get(thing, {}))
    return tuple(sorted(held))


def holds_all(head, things):
    return all([thing in head for thing in things])


def is_head(yard, things):
    if not all([is_number_below(thing, yard[0]) for thing in things]):
        return False
    lowers = lowers_of(yard[1])
    return is_rising(things) and all([holds_all(things, lowers.get(thing, {})) for thing in things])


def tops(yard, head):
    if not is_head(yard, head):
        raise NoHead(f"this is no head of the yard: {head!r}")
    uppers = uppers_of(yard[1])
    return tuple([thing for thing in head if not any([upper in head for upper in uppers.get(thing, {})])])


# Gone upwards, so that whatever stands under a thing has been left out or taken in before it: each head is come to
# once, and none has to be thrown away.
def heads(yard):
    lowers = lowers_of(yard[1])
    found = [()]
    for thing in upwards(yard[0], lowers):
        unders = lowers.get(thing, {})
        found = found + [tuple(sorted(head + (thing,))) for head in found if holds_all(head, unders)]
    return tuple(sorted(found, key=lambda head: (len(head), head)))
