"""What is promised over the whole program: that what its functions tell fits together, and that all names are there."""

import importlib
import inspect
import unittest
from itertools import product
from math import comb

from rankyard.changes import above, beside, renamed, turned
from rankyard.closing import closed, covers
from rankyard.errors import NoLine
from rankyard.heads import head_of, heads, tops
from rankyard.lines import first_line, line_with, lines
from rankyard.standing import floors, tallest
from rankyard.things import is_yard
from rankyard.towers import broadest, towers
from rankyard.weights import parted, summed, weight
from samples import (
    Dice, few_things, follows, is_line, is_tower, lines_by_trying, rows_by_trying, sample_yards, told_anyhow, tower,
    weights_by_towers,
)

INTERFACE = {
    "things": {"is_yard": "thing"},
    "closing": {"closed": "count pairs", "covers": "yard"},
    "standing": {"floors": "yard", "tallest": "yard"},
    "towers": {"broadest": "yard", "towers": "yard"},
    "heads": {"head_of": "yard things", "tops": "yard head", "heads": "yard"},
    "lines": {"first_line": "yard", "lines": "yard", "line_with": "yard one other"},
    "weights": {"weight": "yard one other", "summed": "yard numbers", "parted": "yard sums"},
    "changes": {
        "turned": "yard", "part_of": "yard things", "renamed": "yard places", "beside": "one other",
        "above": "one other",
    },
}


def comes_always_ahead(yard, one, other):
    """In all lines, since there is none in which it is the other way round; nothing comes ahead of itself."""
    try:
        line_with(yard, other, one)
    except NoLine:
        return one != other
    return False


def ways_down(yard, head, known):
    """In how many ways all things of a head can be taken away, one top after the other."""
    if head not in known:
        left = [tuple(thing for thing in head if thing != top) for top in tops(yard, head)]
        known[head] = sum(ways_down(yard, fewer, known) for fewer in left)
    return known[head]


class Built:
    """A yard put together of single things, and what must come of the way in which it was put together."""

    def __init__(self, yard, tall, broad, ways, many_heads):
        self.yard = yard
        self.tall = tall
        self.broad = broad
        self.ways = ways
        self.many_heads = many_heads


def put_beside(one, other):
    ways = one.ways * other.ways * comb(one.yard[0] + other.yard[0], one.yard[0])
    return Built(beside(one.yard, other.yard), max(one.tall, other.tall), one.broad + other.broad, ways,
                 one.many_heads * other.many_heads)


def put_above(one, other):
    return Built(above(one.yard, other.yard), one.tall + other.tall, max(one.broad, other.broad),
                 one.ways * other.ways, one.many_heads + other.many_heads - 1)


def built(dice, count):
    if count == 1:
        return Built((1, ()), 1, 1, 1, 2)
    fewer = 1 + dice.below(count - 1)
    put = (put_beside, put_above)[dice.below(2)]
    found = put(built(dice, fewer), built(dice, count - fewer))
    if dice.below(3) == 0:
        found.yard = turned(found.yard)
    if dice.below(3) == 0:
        found.yard = renamed(found.yard, tuple(dice.shuffled(range(count))))
    return found


class InterfaceTest(unittest.TestCase):
    def test_every_name_is_there_with_its_arguments(self):
        for name, functions in INTERFACE.items():
            module = importlib.import_module("rankyard." + name)
            for function, arguments in functions.items():
                found = inspect.signature(getattr(module, function)).parameters
                self.assertEqual(list(found), arguments.split(), function)
                for argument in found.values():
                    self.assertIs(argument.default, inspect.Parameter.empty, function)


class WholeTest(unittest.TestCase):
    def test_of_told_pairs_the_least_yard_comes_or_a_ring(self):
        dice = Dice(81)
        kinds = {"yard": 0, "ring": 0}
        for _ in range(600):
            count = 1 + dice.below(12)
            pairs = told_anyhow(dice, count, dice.below(2 * count))
            kind, found = closed(count, pairs)
            kinds[kind] += 1
            if kind == "yard":
                self.assertTrue(is_yard(found))
                self.assertEqual(found, (count, follows(range(count), pairs)))
                self.assertLessEqual(set(covers(found)), set(pairs))
            else:
                self.assertEqual(len(set(found)), len(found))
                self.assertLessEqual(set(zip(found, found[1:] + found[:1])), set(pairs))
        self.assertGreater(min(kinds.values()), 100)

    def test_the_tallest_tower_has_a_thing_of_each_floor(self):
        for yard in sample_yards():
            self.assertTrue(is_tower(yard, tallest(yard)))
            self.assertEqual(len(tallest(yard)), len(floors(yard)))
            self.assertTrue(all(thing in row for thing, row in zip(tallest(yard), floors(yard))))

    def test_the_broadest_row_has_a_thing_of_each_tower(self):
        for yard in sample_yards():
            self.assertEqual(len(broadest(yard)), len(towers(yard)))
            self.assertTrue(all(len(set(part) & set(broadest(yard))) == 1 for part in towers(yard)))

    def test_one_thing_stands_under_another_one_just_if_it_comes_ahead_in_all_lines(self):
        for yard in few_things():
            ahead = set(product(range(yard[0]), repeat=2))
            for line in lines_by_trying(yard):
                ahead &= {(one, other) for k, one in enumerate(line) for other in line[k + 1:]}
            self.assertEqual(tuple(sorted(ahead)), yard[1])

    def test_the_same_as_line_with_tells_it(self):
        for yard in sample_yards():
            twos = product(range(yard[0]), repeat=2)
            self.assertEqual(tuple(two for two in twos if comes_always_ahead(yard, two[0], two[1])), yard[1])

    def test_heads_and_their_tops_tell_one_another(self):
        for yard in sample_yards():
            found = {head: tops(yard, head) for head in heads(yard)}
            for head, topmost in found.items():
                self.assertEqual(head_of(yard, topmost), head)
            self.assertEqual(set(found.values()), set(rows_by_trying(yard)) | {()})
            self.assertEqual(len(found), len(rows_by_trying(yard)) + 1)

    def test_as_many_lines_as_ways_from_head_to_head(self):
        for yard in sample_yards()[::2]:
            self.assertEqual(lines(yard), ways_down(yard, tuple(range(yard[0])), {(): 1}))

    def test_every_line_goes_up_from_head_to_head(self):
        for yard in sample_yards():
            known = set(heads(yard))
            line = first_line(yard)
            self.assertTrue(is_line(yard, line))
            for size in range(yard[0] + 1):
                self.assertIn(tuple(sorted(line[:size])), known)

    def test_sums_are_undone_by_weights_which_towers_tell(self):
        dice = Dice(82)
        for yard in sample_yards():
            numbers = tuple(dice.below(2001) - 1000 for _ in range(yard[0]))
            sums = summed(yard, numbers)
            self.assertEqual(parted(yard, sums), numbers)
            weights = weights_by_towers(yard)
            for thing in range(yard[0]):
                self.assertEqual(sum(weights[(under, thing)] * sums[under] for under in range(yard[0])), numbers[thing])
                self.assertEqual([weight(yard, under, thing) for under in range(yard[0])],
                                 [weights[(under, thing)] for under in range(yard[0])])

    def test_yards_put_together_have_what_comes_of_their_parts(self):
        dice = Dice(83)
        for _ in range(400):
            found = built(dice, 1 + dice.below(12))
            yard = found.yard
            self.assertTrue(is_yard(yard), yard)
            self.assertEqual((len(floors(yard)), len(tallest(yard))), (found.tall, found.tall), yard)
            self.assertEqual((len(broadest(yard)), len(towers(yard))), (found.broad, found.broad), yard)
            self.assertEqual(lines(yard), found.ways, yard)
            self.assertEqual(len(heads(yard)), found.many_heads, yard)

    def test_single_things_put_above_one_another(self):
        # Whether the next one comes on top or at the bottom, the things are numbered upwards.
        yard = (1, ())
        for count in range(2, 13):
            yard = above(yard, (1, ())) if count % 2 else above((1, ()), yard)
            self.assertEqual(yard, tower(range(count)))


if __name__ == "__main__":
    unittest.main()
