"""Yards and pairs for the tests, and plain second ways to tell what the program must answer."""

from itertools import combinations, permutations, product


def follows(things, pairs):
    """All that follows of the pairs, by going through each middle thing once."""
    known = {(a, b): False for a, b in product(things, things)}
    for pair in pairs:
        known[pair] = True
    for middle, a, b in product(things, things, things):
        if known[(a, middle)] and known[(middle, b)]:
            known[(a, b)] = True
    return tuple(sorted(pair for pair in known if known[pair]))


def all_relations(count, with_itself):
    """Every rising tuple of pairs of things below count."""
    choices = [(a, b) for a in range(count) for b in range(count) if with_itself or a != b]
    for size in range(len(choices) + 1):
        for pairs in combinations(choices, size):
            yield pairs


def stands_as_a_yard(pairs):
    """Point 0.4's last sentence, for pairs of things that are known to have the right form."""
    held = set(pairs)
    for a, b in pairs:
        if a == b:
            return False
        for c, d in pairs:
            if b == c and (a, d) not in held:
                return False
    return True


def all_yards(count):
    return [(count, pairs) for pairs in all_relations(count, True) if stands_as_a_yard(pairs)]


class Dice:
    """Numbers without an order that meets the eye, the same ones in each run."""

    def __init__(self, seed):
        self.state = seed

    def below(self, bound):
        self.state = (self.state * 6364136223846793005 + 1442695040888963407) % 2**64
        return (self.state >> 33) % bound

    def shuffled(self, things):
        rest = list(things)
        return [rest.pop(self.below(len(rest))) for _ in range(len(rest))]


def told_upwards(dice, count, size):
    """Pairs without a ring: each leads up in some order of the things, which is not that of numbers."""
    order = dice.shuffled(range(count))
    pairs = []
    while count > 1 and len(pairs) < size:
        low, high = sorted((dice.below(count), dice.below(count)))
        if low != high:
            pairs.append((order[low], order[high]))
    return tuple(pairs)


def told_anyhow(dice, count, size):
    return tuple((dice.below(count), dice.below(count)) for _ in range(size))


def named_by(names, pairs):
    return tuple(sorted((names[a], names[b]) for a, b in pairs))


def tower(names):
    return (len(names), tuple(sorted(combinations(names, 2))))


def parts_yard():
    """The numbers 1 to 12, each under those that it divides; number n is thing n - 1."""
    return (12, tuple((a, b) for a in range(12) for b in range(12) if a != b and (b + 1) % (a + 1) == 0))


def corners_yard():
    """The subsets of three things, each under those that hold it."""
    return (8, tuple((a, b) for a in range(8) for b in range(8) if a != b and a & b == a))


def two_storeys():
    """Each of six things under each of six others: 36 pairs of which none follows from others."""
    return (12, tuple(product(range(0, 12, 2), range(1, 12, 2))))


def built_yards():
    yards = [(count, ()) for count in range(1, 13)]
    yards += [tower(range(count)) for count in range(1, 13)]
    yards += [tower(range(count - 1, -1, -1)) for count in range(2, 13)]
    yards += [tower(names) for names in permutations(range(4))]
    yards += [parts_yard(), corners_yard(), two_storeys()]
    dice = Dice(5)
    for _ in range(120):
        count = 1 + dice.below(12)
        pairs = told_upwards(dice, count, dice.below(25))
        yards.append((count, follows(range(count), pairs)))
    return yards
