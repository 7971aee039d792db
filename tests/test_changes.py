import inspect
import unittest
from functools import lru_cache
from itertools import permutations, product
from math import comb

from rankyard.changes import above, beside, part_of, renamed, turned
from rankyard.closing import closed, covers
from rankyard.heads import head_of, heads, tops
from rankyard.lines import first_line, line_with, lines
from rankyard.standing import floors, tallest
from rankyard.things import is_yard
from rankyard.towers import broadest, towers
from rankyard.weights import parted, summed, weight
from samples import (
    FIRST_TAKEN_MISLEADS, TALLEST_TAKEN_MISLEADS, Dice, SameAgainCase, all_yards, beside_itself, corners_yard, follows,
    is_line, is_of_tuples_and_numbers, is_tower, parts_of, parts_yard, rows_by_trying, sample_yards, told_upwards,
    tower, towers_by_trying, two_storeys,
)


def weights_of(yard):
    return {(one, other): weight(yard, one, other) for one in range(yard[0]) for other in range(yard[0])}


def shifted(things, by):
    return tuple(thing + by for thing in things)


def in_order_of_heads(found):
    return tuple(sorted(found, key=lambda head: (len(head), head)))


@lru_cache(maxsize=None)
def yards_by_twos():
    """Many yards by twos, with together at most 12 things, in both orders."""
    dice = Dice(70)
    few = [yard for count in (1, 2, 3) for yard in all_yards(count)]
    twos = list(product(few, few))
    yards = sample_yards()
    while len(twos) < 1400:
        one = yards[dice.below(len(yards))]
        other = yards[dice.below(len(yards))]
        if one[0] + other[0] <= 12:
            twos += [(one, other), (other, one)]
    return tuple(twos)


class ChangesCase(unittest.TestCase):
    def assert_yard(self, found, wanted):
        self.assertEqual(found, wanted)
        self.assertTrue(is_yard(found), found)
        self.assertTrue(is_of_tuples_and_numbers(found), found)


class TurnedTest(ChangesCase):
    def test_the_argument_bears_its_name(self):
        self.assertEqual(list(inspect.signature(turned).parameters), ["yard"])
        self.assertEqual(turned(yard=(2, ((1, 0),))), (2, ((0, 1),)))

    def test_yards_written_out(self):
        self.assert_yard(turned((1, ())), (1, ()))
        self.assert_yard(turned((12, ())), (12, ()))
        self.assert_yard(turned((3, ((0, 1), (0, 2), (1, 2)))), (3, ((1, 0), (2, 0), (2, 1))))
        self.assert_yard(turned((4, ((0, 2), (0, 3), (1, 2)))), (4, ((2, 0), (2, 1), (3, 0))))

    def test_the_pairs_are_turned(self):
        for yard in sample_yards():
            self.assert_yard(turned(yard), (yard[0], tuple(sorted((b, a) for a, b in yard[1]))))

    def test_turned_again_it_is_the_yard(self):
        for yard in sample_yards():
            self.assertEqual(turned(turned(yard)), yard)

    def test_floors(self):
        for yard in sample_yards():
            most = {thing: 0 for thing in range(yard[0])}
            for found in towers_by_trying(yard):
                most[found[0]] = max(most[found[0]], len(found))
            found = floors(turned(yard))
            self.assertEqual(len(found), len(floors(yard)))
            for k, row in enumerate(found):
                self.assertEqual(row, tuple(thing for thing in range(yard[0]) if most[thing] == k + 1))

    def test_towers_and_rows(self):
        for yard in sample_yards():
            found = turned(yard)
            self.assertTrue(is_tower(yard, tallest(found)[::-1]))
            self.assertEqual(len(tallest(found)), len(tallest(yard)))
            self.assertEqual(len(towers(found)), len(towers(yard)))
            self.assertTrue(all(is_tower(yard, part[::-1]) for part in towers(found)))
            self.assertIn(broadest(found), rows_by_trying(yard))
            self.assertEqual(len(broadest(found)), len(broadest(yard)))

    def test_lines(self):
        for yard in sample_yards():
            found = turned(yard)
            self.assertEqual(lines(found), lines(yard))
            self.assertTrue(is_line(yard, first_line(found)[::-1]))

    def test_heads_are_what_is_left_beside_heads(self):
        for yard in sample_yards():
            left = [tuple(sorted(set(range(yard[0])) - set(head))) for head in heads(yard)]
            self.assertEqual(heads(turned(yard)), in_order_of_heads(left))

    def test_weights(self):
        for yard in sample_yards():
            self.assertEqual(weights_of(turned(yard)), {(b, a): w for (a, b), w in weights_of(yard).items()})

    def test_covers(self):
        for yard in sample_yards():
            self.assertEqual(covers(turned(yard)), tuple(sorted((b, a) for a, b in covers(yard))))


class PartOfTest(ChangesCase):
    def test_the_arguments_bear_their_names(self):
        self.assertEqual(list(inspect.signature(part_of).parameters), ["yard", "things"])
        self.assertEqual(part_of(yard=(3, ((2, 0),)), things=(0, 2)), (2, ((1, 0),)))

    def test_parts_written_out(self):
        self.assert_yard(part_of((1, ()), (0,)), (1, ()))
        self.assert_yard(part_of(TALLEST_TAKEN_MISLEADS, (0, 2, 3, 5)), (4, ((0, 1), (0, 3), (2, 3))))
        self.assert_yard(part_of((3, ((0, 1), (0, 2), (1, 2))), (0, 2)), (2, ((0, 1),)))
        self.assert_yard(part_of((3, ((1, 0), (2, 0), (2, 1))), (0, 2)), (2, ((1, 0),)))
        self.assert_yard(part_of(parts_yard(), (1, 2, 3, 5, 11)), (5, ((0, 2), (0, 3), (0, 4), (1, 3), (1, 4), (2, 4),
                                                                      (3, 4))))
        self.assert_yard(part_of(parts_yard(), (6, 7, 8, 9, 10, 11)), (6, ()))

    def test_one_thing(self):
        for yard in sample_yards():
            for thing in range(yard[0]):
                self.assert_yard(part_of(yard, (thing,)), (1, ()))

    def test_all_things(self):
        for yard in sample_yards():
            self.assert_yard(part_of(yard, tuple(range(yard[0]))), yard)

    def assert_part(self, yard, things):
        held = set(yard[1])
        places = range(len(things))
        wanted = tuple((a, b) for a in places for b in places if (things[a], things[b]) in held)
        self.assert_yard(part_of(yard, things), (len(things), wanted))

    def test_some_things(self):
        for yard in sample_yards():
            parts = parts_of(yard[0])[1:]
            for things in parts if yard[0] <= 5 else parts[yard[0]::61]:
                self.assert_part(yard, things)

    def test_every_part_of_twelve_things(self):
        for yard in (parts_yard(), tower(range(11, -1, -1))):
            for things in parts_of(12)[1:]:
                self.assert_part(yard, things)

    def test_a_part_of_a_part(self):
        dice = Dice(71)
        for yard in sample_yards():
            things = tuple(sorted(dice.shuffled(range(yard[0]))[:1 + dice.below(yard[0])]))
            fewer = tuple(sorted(dice.shuffled(range(len(things)))[:1 + dice.below(len(things))]))
            self.assertEqual(part_of(part_of(yard, things), fewer), part_of(yard, tuple(things[k] for k in fewer)))


class RenamedTest(ChangesCase):
    def setUp(self):
        dice = Dice(72)
        self.cases = [(yard, tuple(dice.shuffled(range(yard[0])))) for yard in sample_yards()]

    def test_the_arguments_bear_their_names(self):
        self.assertEqual(list(inspect.signature(renamed).parameters), ["yard", "places"])
        self.assertEqual(renamed(yard=(2, ((1, 0),)), places=(1, 0)), (2, ((0, 1),)))

    def test_yards_written_out(self):
        self.assert_yard(renamed((1, ()), (0,)), (1, ()))
        self.assert_yard(renamed((3, ((0, 1),)), (1, 2, 0)), (3, ((1, 2),)))
        self.assert_yard(renamed((3, ((0, 1),)), (2, 0, 1)), (3, ((2, 0),)))
        self.assert_yard(renamed((4, ((0, 2), (0, 3), (1, 2))), (2, 0, 3, 1)), (4, ((0, 3), (2, 1), (2, 3))))

    def test_a_single_tower_under_all_numbers(self):
        for places in permutations(range(5)):
            found = renamed(tower(range(5)), places)
            self.assertTrue(is_yard(found))
            self.assertEqual(tallest(found), places)
            self.assertEqual(first_line(found), places)

    def test_the_pairs_rise_under_the_new_numbers(self):
        for yard, places in self.cases:
            wanted = tuple(sorted((places[a], places[b]) for a, b in yard[1]))
            self.assert_yard(renamed(yard, places), (yard[0], wanted))

    def test_places_that_change_nothing(self):
        for yard, places in self.cases:
            self.assertEqual(renamed(yard, tuple(range(yard[0]))), yard)
            back = tuple(places.index(k) for k in range(yard[0]))
            self.assertEqual(renamed(renamed(yard, places), back), yard)

    def test_floors_towers_and_rows(self):
        for yard, places in self.cases:
            found = renamed(yard, places)
            self.assertEqual(floors(found), tuple(tuple(sorted(places[k] for k in row)) for row in floors(yard)))
            self.assertEqual(len(tallest(found)), len(tallest(yard)))
            self.assertEqual(len(towers(found)), len(towers(yard)))
            self.assertEqual(len(broadest(found)), len(broadest(yard)))
            self.assertIn(tuple(sorted(places.index(k) for k in broadest(found))), rows_by_trying(yard))

    def test_lines_and_heads(self):
        for yard, places in self.cases:
            found = renamed(yard, places)
            self.assertEqual(lines(found), lines(yard))
            self.assertTrue(is_line(found, tuple(places[k] for k in first_line(yard))))
            named = [tuple(sorted(places[k] for k in head)) for head in heads(yard)]
            self.assertEqual(heads(found), in_order_of_heads(named))

    def test_weights(self):
        for yard, places in self.cases:
            named = {(places[a], places[b]): found for (a, b), found in weights_of(yard).items()}
            self.assertEqual(weights_of(renamed(yard, places)), named)

    def test_told_anew_it_is_the_same(self):
        for yard, places in self.cases:
            told = tuple((places[a], places[b]) for a, b in covers(yard))
            self.assertEqual(closed(yard[0], told), ("yard", renamed(yard, places)))


class BesideTest(ChangesCase):
    def test_the_arguments_bear_their_names(self):
        self.assertEqual(list(inspect.signature(beside).parameters), ["one", "other"])
        self.assertEqual(beside(one=(1, ()), other=(2, ((1, 0),))), (3, ((2, 1),)))

    def test_yards_written_out(self):
        self.assert_yard(beside((1, ()), (1, ())), (2, ()))
        self.assert_yard(beside((2, ((0, 1),)), (1, ())), (3, ((0, 1),)))
        self.assert_yard(beside((2, ((1, 0),)), (3, ((0, 1), (2, 1)))), (5, ((1, 0), (2, 3), (4, 3))))
        self.assert_yard(beside(TALLEST_TAKEN_MISLEADS, TALLEST_TAKEN_MISLEADS),
                         beside_itself(TALLEST_TAKEN_MISLEADS, 2))

    def test_pairs(self):
        for one, other in yards_by_twos():
            shifted_pairs = tuple(shifted(pair, one[0]) for pair in other[1])
            self.assert_yard(beside(one, other), (one[0] + other[0], one[1] + shifted_pairs))

    def test_both_can_be_taken_out_again(self):
        for one, other in yards_by_twos():
            found = beside(one, other)
            self.assertEqual(part_of(found, tuple(range(one[0]))), one)
            self.assertEqual(part_of(found, tuple(range(one[0], found[0]))), other)

    def test_floors(self):
        for one, other in yards_by_twos():
            low, high = floors(one), floors(other)
            rows = max(len(low), len(high))
            low += ((),) * (rows - len(low))
            high += ((),) * (rows - len(high))
            wanted = tuple(low[k] + shifted(high[k], one[0]) for k in range(rows))
            self.assertEqual(floors(beside(one, other)), wanted)

    def test_towers_and_rows(self):
        for one, other in yards_by_twos():
            found = beside(one, other)
            self.assertEqual(len(tallest(found)), max(len(tallest(one)), len(tallest(other))))
            self.assertEqual(len(towers(found)), len(towers(one)) + len(towers(other)))
            self.assertEqual(len(broadest(found)), len(broadest(one)) + len(broadest(other)))

    def test_lines(self):
        for one, other in yards_by_twos():
            ways = comb(one[0] + other[0], one[0])
            self.assertEqual(lines(beside(one, other)), lines(one) * lines(other) * ways)
            self.assertEqual(first_line(beside(one, other)), first_line(one) + shifted(first_line(other), one[0]))

    def test_any_of_other_can_come_ahead_of_any_of_one(self):
        for one, other in yards_by_twos()[::3]:
            found = beside(one, other)
            for a, b in product(range(one[0]), range(one[0], found[0])):
                self.assertTrue(is_line(found, line_with(found, a, b)))
                self.assertTrue(is_line(found, line_with(found, b, a)))

    def test_heads(self):
        for one, other in yards_by_twos():
            both = [head + shifted(more, one[0]) for head in heads(one) for more in heads(other)]
            self.assertEqual(heads(beside(one, other)), in_order_of_heads(both))

    def test_weights(self):
        for one, other in yards_by_twos():
            wanted = {two: 0 for two in product(range(one[0] + other[0]), repeat=2)}
            wanted.update(weights_of(one))
            wanted.update({shifted(two, one[0]): found for two, found in weights_of(other).items()})
            self.assertEqual(weights_of(beside(one, other)), wanted)

    def test_sums(self):
        dice = Dice(73)
        for one, other in yards_by_twos()[::2]:
            low = tuple(dice.below(100) - 50 for _ in range(one[0]))
            high = tuple(dice.below(100) - 50 for _ in range(other[0]))
            self.assertEqual(summed(beside(one, other), low + high), summed(one, low) + summed(other, high))
            self.assertEqual(parted(beside(one, other), low + high), parted(one, low) + parted(other, high))


class AboveTest(ChangesCase):
    def test_the_arguments_bear_their_names(self):
        self.assertEqual(list(inspect.signature(above).parameters), ["one", "other"])
        self.assertEqual(above(one=(1, ()), other=(2, ())), (3, ((0, 1), (0, 2))))

    def test_yards_written_out(self):
        self.assert_yard(above((1, ()), (1, ())), (2, ((0, 1),)))
        self.assert_yard(above((2, ()), (1, ())), (3, ((0, 2), (1, 2))))
        self.assert_yard(above((2, ((1, 0),)), (2, ((1, 0),))), (4, ((0, 2), (0, 3), (1, 0), (1, 2), (1, 3), (3, 2))))
        self.assert_yard(above(tower(range(5)), tower(range(7))), tower(range(12)))

    def test_two_storeys(self):
        places = tuple(range(0, 12, 2)) + tuple(range(1, 12, 2))
        self.assert_yard(renamed(above((6, ()), (6, ())), places), two_storeys())

    def test_pairs(self):
        for one, other in yards_by_twos():
            count = one[0] + other[0]
            pairs = set(one[1]) | {shifted(pair, one[0]) for pair in other[1]}
            pairs |= set(product(range(one[0]), range(one[0], count)))
            self.assert_yard(above(one, other), (count, tuple(sorted(pairs))))

    def test_both_can_be_taken_out_again(self):
        for one, other in yards_by_twos():
            found = above(one, other)
            self.assertEqual(part_of(found, tuple(range(one[0]))), one)
            self.assertEqual(part_of(found, tuple(range(one[0], found[0]))), other)

    def test_floors(self):
        for one, other in yards_by_twos():
            wanted = floors(one) + tuple(shifted(row, one[0]) for row in floors(other))
            self.assertEqual(floors(above(one, other)), wanted)

    def test_towers_and_rows(self):
        for one, other in yards_by_twos():
            found = above(one, other)
            self.assertEqual(len(tallest(found)), len(tallest(one)) + len(tallest(other)))
            self.assertEqual(len(towers(found)), max(len(towers(one)), len(towers(other))))
            self.assertEqual(len(broadest(found)), max(len(broadest(one)), len(broadest(other))))

    def test_lines(self):
        for one, other in yards_by_twos():
            self.assertEqual(lines(above(one, other)), lines(one) * lines(other))
            self.assertEqual(first_line(above(one, other)), first_line(one) + shifted(first_line(other), one[0]))

    def test_heads(self):
        for one, other in yards_by_twos():
            everything = tuple(range(one[0]))
            both = heads(one)[:-1] + tuple(everything + shifted(more, one[0]) for more in heads(other))
            self.assertEqual(heads(above(one, other)), in_order_of_heads(both))

    def test_tops(self):
        for one, other in yards_by_twos():
            everything = tuple(range(one[0] + other[0]))
            wanted = shifted(tops(other, tuple(range(other[0]))), one[0])
            self.assertEqual(tops(above(one, other), everything), wanted)
            self.assertEqual(head_of(above(one, other), wanted), everything)

    def test_weights(self):
        for one, other in yards_by_twos():
            low, high = weights_of(one), weights_of(other)
            wanted = {two: 0 for two in product(range(one[0] + other[0]), repeat=2)}
            wanted.update(low)
            wanted.update({shifted(two, one[0]): found for two, found in high.items()})
            # A tower from the one up into the other goes up in the one, then by a step, then up in the other.
            for a, b in product(range(one[0]), range(other[0])):
                out_of_low = sum(low[(a, thing)] for thing in range(one[0]))
                into_high = sum(high[(thing, b)] for thing in range(other[0]))
                wanted[(a, b + one[0])] = -out_of_low * into_high
            self.assertEqual(weights_of(above(one, other)), wanted)


class TogetherTest(ChangesCase):
    def test_up_to_twelve_things_together(self):
        for count in range(1, 12):
            free = beside((count, ()), (12 - count, ()))
            self.assert_yard(free, (12, ()))
            storeys = above((count, ()), (12 - count, ()))
            self.assertTrue(is_yard(storeys))
            self.assertEqual(len(storeys[1]), count * (12 - count))
        self.assertTrue(any(one[0] + other[0] == 12 for one, other in yards_by_twos()))

    def test_turned(self):
        for one, other in yards_by_twos():
            places = tuple(range(other[0], other[0] + one[0])) + tuple(range(other[0]))
            self.assertEqual(turned(beside(one, other)), beside(turned(one), turned(other)))
            self.assertEqual(renamed(turned(above(one, other)), places), above(turned(other), turned(one)))

    def test_three(self):
        for one, other in yards_by_twos()[::3]:
            for third in ((1, ()), FIRST_TAKEN_MISLEADS):
                self.assertEqual(beside(beside(one, other), third), beside(one, beside(other, third)))
                self.assertEqual(above(above(one, other), third), above(one, above(other, third)))


class BeyondTest(unittest.TestCase):
    """What lies somewhat beyond a bound is not refused."""

    def test_more_things(self):
        dice = Dice(74)
        for count in range(13, 31):
            yard = (count, follows(range(count), told_upwards(dice, count, count)))
            everything = tuple(range(count))
            self.assertEqual(turned(yard), (count, tuple(sorted((b, a) for a, b in yard[1]))))
            self.assertEqual(part_of(yard, everything), yard)
            places = tuple(dice.shuffled(everything))
            wanted = tuple(sorted((places[a], places[b]) for a, b in yard[1]))
            self.assertEqual(renamed(yard, places), (count, wanted))

    def test_more_things_together(self):
        self.assertEqual(above(tower(range(12)), tower(range(9))), tower(range(21)))
        self.assertEqual(beside((12, ()), (12, ())), (24, ()))
        self.assertEqual(beside(corners_yard(), corners_yard()), beside_itself(corners_yard(), 2))
        self.assertEqual(len(above(corners_yard(), parts_yard())[1]), 19 + 23 + 8 * 12)

    def test_no_things(self):
        yard = (2, ((1, 0),))
        self.assertEqual(turned((0, ())), (0, ()))
        self.assertEqual(part_of(yard, ()), (0, ()))
        self.assertEqual(renamed((0, ()), ()), (0, ()))
        for put in (beside, above):
            self.assertEqual(put(yard, (0, ())), yard)
            self.assertEqual(put((0, ()), yard), yard)


class SameAgainTest(SameAgainCase):
    def test_nothing_is_changed_and_the_same_is_told_again(self):
        dice = Dice(75)
        for yard in sample_yards():
            self.assert_same_again(turned, yard)
            self.assert_same_again(renamed, yard, tuple(dice.shuffled(range(yard[0]))))
            self.assert_same_again(part_of, yard, tuple(range(dice.below(yard[0]), yard[0])))
        for one, other in yards_by_twos():
            self.assert_same_again(beside, one, other)
            self.assert_same_again(above, one, other)


if __name__ == "__main__":
    unittest.main()
