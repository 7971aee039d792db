"""What a yard is, and how its pairs are read."""

MOST_THINGS = 12


# True and False are ints for Python, but no whole numbers here.
def is_whole(thing):
    return isinstance(thing, int) and not isinstance(thing, bool)


def is_count(thing):
    return is_whole(thing) and 1 <= thing <= MOST_THINGS


def is_number_below(thing, count):
    return is_whole(thing) and 0 <= thing < count


def is_pair(thing):
    return isinstance(thing, tuple) and len(thing) == 2


def is_pair_below(thing, count):
    return is_pair(thing) and is_number_below(thing[0], count) and is_number_below(thing[1], count)


def are_pairs_below(thing, count):
    return isinstance(thing, tuple) and all([is_pair_below(pair, count) for pair in thing])


# Strictly, so that what is there twice doesn't rise either.
def is_rising(things):
    return all([things[k] < things[k + 1] for k in range(len(things) - 1)])


# For each thing that stands under others a dict with these as keys, so that one is found without a walk.
def uppers_of(pairs):
    uppers = {}
    for under, over in pairs:
        if under not in uppers:
            uppers[under] = {}
        uppers[under][over] = True
    return uppers


# Likewise, for each thing under which others stand a dict with those.
def lowers_of(pairs):
    return uppers_of([(over, under) for under, over in pairs])


# In a yard all that stands under a lower thing stands under a higher one too, and so does the lower one itself:
# sorted by how many stand under it, each thing comes behind all that stands under it.
def upwards(count, lowers):
    return sorted(range(count), key=lambda thing: len(lowers.get(thing, {})))


def none_under_itself(pairs):
    return all([under != over for under, over in pairs])


def holds_what_follows(pairs):
    uppers = uppers_of(pairs)
    for under, over in pairs:
        for third in uppers.get(over, {}):
            if third not in uppers[under]:
                return False
    return True


# The form is asked first: only pairs of whole numbers can be set in order and followed.
def is_yard(thing):
    if not is_pair(thing):
        return False
    count = thing[0]
    pairs = thing[1]
    if not is_count(count) or not are_pairs_below(pairs, count):
        return False
    return is_rising(pairs) and none_under_itself(pairs) and holds_what_follows(pairs)
