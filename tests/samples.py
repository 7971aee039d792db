"""Yards and pairs for the tests, and plain second ways to tell what the program must answer."""

import unittest
from functools import lru_cache
from itertools import combinations, permutations, product


def follows(things, pairs):
    """All that follows of the pairs, by going through each middle thing once."""
    known = {(a, b): False for a, b in product(things, things)}
    for pair in pairs:
        known[pair] = True
    for middle, a, b in product(things, things, things):
        if known[(a, middle)] and known[(middle, b)]:
            known[(a, b)] = True
    return tuple(sorted(pair for pair in known if known[pair]))


def all_relations(count, with_itself):
    """Every rising tuple of pairs of things below count."""
    choices = [(a, b) for a in range(count) for b in range(count) if with_itself or a != b]
    for size in range(len(choices) + 1):
        for pairs in combinations(choices, size):
            yield pairs


def stands_as_a_yard(pairs):
    """Point 0.4's last sentence, for pairs of things that are known to have the right form."""
    held = set(pairs)
    for a, b in pairs:
        if a == b:
            return False
        for c, d in pairs:
            if b == c and (a, d) not in held:
                return False
    return True


def all_yards(count):
    return [(count, pairs) for pairs in all_relations(count, True) if stands_as_a_yard(pairs)]


class Dice:
    """Numbers without an order that meets the eye, the same ones in each run."""

    def __init__(self, seed):
        self.state = seed

    def below(self, bound):
        self.state = (self.state * 6364136223846793005 + 1442695040888963407) % 2**64
        return (self.state >> 33) % bound

    def shuffled(self, things):
        rest = list(things)
        return [rest.pop(self.below(len(rest))) for _ in range(len(rest))]


def told_upwards(dice, count, size):
    """Pairs without a ring: each leads up in some order of the things, which is not that of numbers."""
    order = dice.shuffled(range(count))
    pairs = []
    while count > 1 and len(pairs) < size:
        low, high = sorted((dice.below(count), dice.below(count)))
        if low != high:
            pairs.append((order[low], order[high]))
    return tuple(pairs)


def told_anyhow(dice, count, size):
    return tuple((dice.below(count), dice.below(count)) for _ in range(size))


def named_by(names, pairs):
    return tuple(sorted((names[a], names[b]) for a, b in pairs))


def tower(names):
    return (len(names), tuple(sorted(combinations(names, 2))))


def parts_yard():
    """The numbers 1 to 12, each under those that it divides; number n is thing n - 1."""
    return (12, tuple((a, b) for a in range(12) for b in range(12) if a != b and (b + 1) % (a + 1) == 0))


def corners_yard(size=3):
    """The subsets of three things, or as many as told, each under those that hold it."""
    corners = range(2**size)
    return (2**size, tuple((a, b) for a in corners for b in corners if a != b and a & b == a))


def two_storeys():
    """Each of six things under each of six others: 36 pairs of which none follows from others."""
    return (12, tuple(product(range(0, 12, 2), range(1, 12, 2))))


def built_yards():
    yards = [(count, ()) for count in range(1, 13)]
    yards += [tower(range(count)) for count in range(1, 13)]
    yards += [tower(range(count - 1, -1, -1)) for count in range(2, 13)]
    yards += [tower(names) for names in permutations(range(4))]
    yards += [parts_yard(), corners_yard(), two_storeys()]
    dice = Dice(5)
    for _ in range(120):
        count = 1 + dice.below(12)
        pairs = told_upwards(dice, count, dice.below(25))
        yards.append((count, follows(range(count), pairs)))
    return yards


def upward_yards(count):
    """Every yard in which each thing stands under ones with higher numbers only: all there are, but for the names."""
    choices = list(combinations(range(count), 2))
    ways = [pairs for size in range(len(choices) + 1) for pairs in combinations(choices, size)]
    return [(count, pairs) for pairs in ways if stands_as_a_yard(pairs)]


def beside_itself(yard, times):
    """The yard several times, side by side."""
    count, pairs = yard
    return (count * times, tuple((a + count * k, b + count * k) for k in range(times) for a, b in pairs))


def named_anew(dice, yard):
    return (yard[0], named_by(dice.shuffled(range(yard[0])), yard[1]))


# The towers (0, 3) and (1, 2) part it; who puts 2 on 0 needs a third one.
FIRST_TAKEN_MISLEADS = (4, ((0, 2), (0, 3), (1, 2)))
# The towers (0, 1, 2) and (3, 4, 5) part it; who takes the tallest one, (0, 1, 4, 5), first needs two more.
TALLEST_TAKEN_MISLEADS = (6, ((0, 1), (0, 2), (0, 4), (0, 5), (1, 2), (1, 4), (1, 5), (3, 4), (3, 5), (4, 5)))


def misleading_yards():
    yards = [beside_itself(FIRST_TAKEN_MISLEADS, times) for times in (1, 2, 3)]
    yards += [beside_itself(TALLEST_TAKEN_MISLEADS, times) for times in (1, 2)]
    dice = Dice(13)
    return yards + [named_anew(dice, yard) for yard in yards for _ in range(8)]


@lru_cache(maxsize=None)
def sample_yards():
    """All yards of up to four things, those of five under some names, and many of up to 12."""
    dice = Dice(14)
    yards = [(count, pairs) for count in (1, 2, 3, 4) for pairs in all_relations(count, False)
             if stands_as_a_yard(pairs)]
    yards += [named_anew(dice, yard) for yard in upward_yards(5)]
    yards += built_yards() + misleading_yards()
    for pairs_told in range(4, 34):
        yards.append((12, follows(range(12), told_upwards(dice, 12, pairs_told))))
    return tuple(yards)


@lru_cache(maxsize=None)
def parts_of(count):
    """All ways to take some things, those of fewer first, those of equally many in the order of tuples."""
    return tuple(part for size in range(count + 1) for part in combinations(range(count), size))


@lru_cache(maxsize=None)
def rows_by_trying(yard):
    held = set(yard[1])
    return tuple(part for part in parts_of(yard[0]) if part and not any(
        (a, b) in held or (b, a) in held for a, b in combinations(part, 2)))


@lru_cache(maxsize=None)
def towers_by_trying(yard):
    """All towers, each with its things in the order in which they stand."""
    held = set(yard[1])
    found = []
    for part in parts_of(yard[0]):
        if part and all((a, b) in held or (b, a) in held for a, b in combinations(part, 2)):
            found.append(tuple(sorted(part, key=lambda thing: sum((other, thing) in held for other in part))))
    return tuple(found)


@lru_cache(maxsize=None)
def heads_by_trying(yard):
    return tuple(part for part in parts_of(yard[0]) if all(a in part for a, b in yard[1] if b in part))


@lru_cache(maxsize=None)
def lines_by_trying(yard):
    """All lines in the order of tuples, out of all orders of at most seven things."""
    return tuple(order for order in permutations(range(yard[0])) if goes_up(yard, order))


def goes_up(yard, order):
    place = {thing: k for k, thing in enumerate(order)}
    return all(place[a] < place[b] for a, b in yard[1])


def is_line(yard, thing):
    return type(thing) is tuple and sorted(thing) == list(range(yard[0])) and goes_up(yard, thing)


@lru_cache(maxsize=None)
def few_things():
    """Yards of which all orders can be gone through: those of the sample yards, and more of six and seven things."""
    dice = Dice(15)
    yards = [yard for yard in sample_yards() if yard[0] <= 7]
    yards += [(count, follows(range(count), told_upwards(dice, count, size)))
              for count in (6, 7) for size in range(1, 9) for _ in range(4)]
    return tuple(yards)


def weights_by_towers(yard):
    """For each two things the towers from the one up to the other, those with an odd number of steps taken off."""
    weights = {two: 0 for two in product(range(yard[0]), repeat=2)}
    for found in towers_by_trying(yard):
        weights[(found[0], found[-1])] += 1 if len(found) % 2 else -1
    return weights


def is_tower(yard, thing):
    steps = zip(thing, thing[1:])
    return len(thing) > 0 and set(thing) <= set(range(yard[0])) and all(step in yard[1] for step in steps)


def is_of_tuples_and_numbers(thing):
    """Nothing but tuples and whole numbers, however deep: no list, no truth."""
    if type(thing) is tuple:
        return all(is_of_tuples_and_numbers(part) for part in thing)
    return type(thing) is int


class SameAgainCase(unittest.TestCase):
    def assert_same_again(self, asked, *handed):
        """What is handed in stays as it is; the same comes of it again, and of an equal thing made anew."""
        written = repr(handed)
        first = asked(*handed)
        self.assertEqual(repr(handed), written)
        self.assertEqual(asked(*handed), first)
        self.assertEqual(asked(*made_anew(handed)), first)
        self.assertEqual(repr(handed), written)


def made_anew(thing):
    return tuple([made_anew(part) for part in thing]) if isinstance(thing, tuple) else thing
