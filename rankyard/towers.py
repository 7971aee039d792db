"""The fewest towers into which all things can be parted, and the broadest row, which has one thing of each."""

from rankyard.things import uppers_of


# Puts a thing right on top of this one. Where one that would do is taken already, the thing that has it is asked to
# take another one instead; none is asked for twice, so that this comes to an end.
def take_upper(uppers, thing, under_of, asked):
    for upper in uppers.get(thing, {}):
        if upper in asked:
            continue
        asked[upper] = True
        if upper not in under_of or take_upper(uppers, under_of[upper], under_of, asked):
            under_of[upper] = thing
            return True
    return False


# For each thing that stands on another one in its tower, that other one. Each such step saves a tower, so the most
# steps make the fewest towers; and there are the most when no thing can take one any more, however others give way.
def steps_of(yard):
    uppers = uppers_of(yard[1])
    under_of = {}
    for thing in range(yard[0]):
        take_upper(uppers, thing, under_of, {})
    return under_of


def tower_from(over_of, bottom):
    found = [bottom]
    while found[-1] in over_of:
        found.append(over_of[found[-1]])
    return tuple(found)


def towers(yard):
    under_of = steps_of(yard)
    over_of = dict([(under, over) for over, under in under_of.items()])
    return tuple([tower_from(over_of, thing) for thing in range(yard[0]) if thing not in under_of])


def stands_on_any(uppers, thing, others):
    return any([thing in uppers.get(other, {}) for other in others])


# A row as broad as there are towers takes one thing of each, out of what is left of it. Where the topmost of one
# tower stands over the topmost of another, it stands over all that is left of that other, so no such row takes it.
def without_overtopping(uppers, lowered):
    tips = [tower[-1] for tower in lowered]
    return [tower[:-1] if stands_on_any(uppers, tower[-1], tips) else tower for tower in lowered]


def broadest(yard):
    uppers = uppers_of(yard[1])
    before = []
    lowered = list(towers(yard))
    while lowered != before:
        before = lowered
        lowered = without_overtopping(uppers, before)
    return tuple(sorted([tower[-1] for tower in lowered]))
