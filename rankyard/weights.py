"""Sums over all that stands under a thing, and the weights that undo them."""

from rankyard.things import lowers_of, upwards


def sum_under(lowers, thing, numbers):
    return sum([numbers[under] for under in lowers.get(thing, {})])


# The weights from one to itself and to all under which it stands; those to all other things are 0. Gone upwards, so
# that the weights to all that stands between are there first.
def weights_from(yard, one):
    lowers = lowers_of(yard[1])
    found = {one: 1}
    for thing in upwards(yard[0], lowers):
        unders = lowers.get(thing, {})
        if one in unders:
            found[thing] = -sum([found[under] for under in unders if under in found])
    return found


def weight(yard, one, other):
    return weights_from(yard, one).get(other, 0)


def summed(yard, numbers):
    lowers = lowers_of(yard[1])
    return tuple([numbers[thing] + sum_under(lowers, thing, numbers) for thing in range(yard[0])])


# Gone upwards, so that what has come into a sum from below is known and can be taken out of it.
def parted(yard, sums):
    lowers = lowers_of(yard[1])
    numbers = {}
    for thing in upwards(yard[0], lowers):
        numbers[thing] = sums[thing] - sum_under(lowers, thing, numbers)
    return tuple([numbers[thing] for thing in range(yard[0])])
