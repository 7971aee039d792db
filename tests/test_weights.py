import inspect
import unittest
from itertools import product

from rankyard.heads import head_of
from rankyard.weights import parted, summed, weight
from samples import (
    TALLEST_TAKEN_MISLEADS, Dice, SameAgainCase, corners_yard, follows, is_of_tuples_and_numbers, named_by, parts_yard,
    sample_yards, told_upwards, tower, two_storeys, weights_by_towers,
)


def between(yard, one, other):
    held = set(yard[1])
    return [thing for thing in range(yard[0]) if (one, thing) in held and (thing, other) in held]


def some_numbers(dice, count):
    """Numbers below 0, 0, small ones and very great ones."""
    greats = (1, 1000, 2**64, 10**200)
    return tuple((dice.below(3) - 1) * greats[dice.below(4)] + dice.below(7) - 3 for _ in range(count))


def sums_by_trying(yard, numbers):
    sums = list(numbers)
    for under, over in yard[1]:
        sums[over] += numbers[under]
    return tuple(sums)


def all_weights(yard):
    return {two: weight(yard, two[0], two[1]) for two in product(range(yard[0]), repeat=2)}


class WeightTest(unittest.TestCase):
    def test_the_arguments_bear_their_names(self):
        self.assertEqual(list(inspect.signature(weight).parameters), ["yard", "one", "other"])
        self.assertEqual(weight(yard=(2, ((1, 0),)), one=1, other=0), -1)
        self.assertEqual(weight(other=1, one=0, yard=(2, ((1, 0),))), 0)

    def test_to_itself(self):
        for yard in sample_yards():
            for thing in range(yard[0]):
                self.assertEqual(weight(yard, thing, thing), 1)

    def test_where_one_does_not_stand_under_other(self):
        for yard in sample_yards():
            for one, other in product(range(yard[0]), repeat=2):
                if one != other and (one, other) not in yard[1]:
                    self.assertEqual(weight(yard, one, other), 0, (yard, one, other))

    def test_the_sum_is_0_where_one_stands_under_other(self):
        for yard in sample_yards():
            for one, other in yard[1]:
                found = [weight(yard, one, thing) for thing in [one] + between(yard, one, other) + [other]]
                self.assertEqual(sum(found), 0, (yard, one, other))

    def test_the_sum_is_0_from_below_too(self):
        for yard in sample_yards():
            for one, other in yard[1]:
                found = [weight(yard, thing, other) for thing in [one] + between(yard, one, other) + [other]]
                self.assertEqual(sum(found), 0, (yard, one, other))

    def test_held_against_the_towers_from_the_one_up_to_the_other(self):
        for yard in sample_yards():
            self.assertEqual(all_weights(yard), weights_by_towers(yard), yard)

    def test_a_whole_number(self):
        for yard in sample_yards()[::5]:
            for found in all_weights(yard).values():
                self.assertIs(type(found), int)

    def test_where_nothing_stands_between(self):
        self.assertEqual(weight((2, ((0, 1),)), 0, 1), -1)
        self.assertEqual(weight((2, ((0, 1),)), 1, 0), 0)
        self.assertEqual(set(all_weights(two_storeys()).values()), {1, 0, -1})
        for one, other in two_storeys()[1]:
            self.assertEqual(weight(two_storeys(), one, other), -1)

    def test_no_pairs(self):
        for count in range(1, 13):
            for (one, other), found in all_weights((count, ())).items():
                self.assertEqual(found, 1 if one == other else 0)

    def test_one_single_tower(self):
        dice = Dice(61)
        for count in range(1, 13):
            names = dice.shuffled(range(count))
            yard = (count, named_by(names, tower(range(count))[1]))
            for a, b in product(range(count), repeat=2):
                self.assertEqual(weight(yard, names[a], names[b]), {0: 1, 1: -1}.get(b - a, 0))

    def test_as_many_beside_one_another_as_there_is_room_for(self):
        for middle in range(1, 11):
            last = middle + 1
            pairs = [(0, k) for k in range(1, last + 1)] + [(k, last) for k in range(1, last)]
            yard = (middle + 2, tuple(sorted(pairs)))
            self.assertEqual(weight(yard, 0, last), middle - 1)
            self.assertEqual(weight(yard, last, 0), 0)

    def test_storeys_on_top_of_one_another(self):
        # Three things, each under each of three others, these under each of four, and one below and above all.
        storeys = ((0,), (1, 2, 3), (4, 5, 6), (7, 8, 9, 10), (11,))
        pairs = [(a, b) for k, storey in enumerate(storeys) for a in storey for over in storeys[k + 1:] for b in over]
        yard = (12, tuple(sorted(pairs)))
        self.assertEqual([weight(yard, 0, storey[0]) for storey in storeys], [1, -1, 2, -4, 12])
        self.assertEqual([weight(yard, storey[0], 11) for storey in storeys], [12, -6, 3, -1, 1])

    def test_corners_and_parts(self):
        for one, other in corners_yard()[1]:
            self.assertEqual(weight(corners_yard(), one, other), (-1)**bin(one ^ other).count("1"))
        by_times = {2: -1, 3: -1, 4: 0, 5: -1, 6: 1, 7: -1, 8: 0, 9: 0, 10: 1, 11: -1, 12: 0}
        for one, other in parts_yard()[1]:
            self.assertEqual(weight(parts_yard(), one, other), by_times[(other + 1) // (one + 1)])


class SummedTest(unittest.TestCase):
    def test_the_arguments_bear_their_names(self):
        self.assertEqual(list(inspect.signature(summed).parameters), ["yard", "numbers"])
        self.assertEqual(summed(yard=(2, ((1, 0),)), numbers=(3, 4)), (7, 4))

    def test_sums_written_out(self):
        self.assertEqual(summed((1, ()), (5,)), (5,))
        self.assertEqual(summed((4, ((0, 2), (0, 3), (1, 2))), (1, 10, 100, 1000)), (1, 10, 111, 1001))
        self.assertEqual(summed((3, ((2, 0), (2, 1))), (-1, 0, -5)), (-6, -5, -5))
        self.assertEqual(summed(TALLEST_TAKEN_MISLEADS, (1, 2, 4, 8, 16, 32)), (1, 3, 7, 8, 27, 59))

    def test_no_pairs(self):
        dice = Dice(62)
        for count in range(1, 13):
            numbers = some_numbers(dice, count)
            self.assertEqual(summed((count, ()), numbers), numbers)

    def test_held_against_a_second_reckoning(self):
        dice = Dice(63)
        for yard in sample_yards():
            for _ in range(3):
                numbers = some_numbers(dice, yard[0])
                found = summed(yard, numbers)
                self.assertEqual(found, sums_by_trying(yard, numbers), (yard, numbers))
                self.assertTrue(is_of_tuples_and_numbers(found))

    def test_a_1_for_each_thing_counts_what_its_head_has(self):
        for yard in sample_yards():
            found = summed(yard, (1,) * yard[0])
            self.assertEqual(found, tuple(len(head_of(yard, (thing,))) for thing in range(yard[0])))

    def test_a_single_1_is_found_again_in_all_that_stands_over_it(self):
        for yard in sample_yards()[::3]:
            for one in range(yard[0]):
                found = summed(yard, tuple(int(thing == one) for thing in range(yard[0])))
                self.assertEqual(found, tuple(
                    int(thing == one or (one, thing) in yard[1]) for thing in range(yard[0])))


class PartedTest(unittest.TestCase):
    def test_the_arguments_bear_their_names(self):
        self.assertEqual(list(inspect.signature(parted).parameters), ["yard", "sums"])
        self.assertEqual(parted(yard=(2, ((1, 0),)), sums=(7, 4)), (3, 4))

    def test_numbers_written_out(self):
        self.assertEqual(parted((1, ()), (5,)), (5,))
        self.assertEqual(parted((4, ((0, 2), (0, 3), (1, 2))), (1, 10, 111, 1001)), (1, 10, 100, 1000))
        self.assertEqual(parted((3, ((2, 0), (2, 1))), (0, 0, 7)), (-7, -7, 7))
        self.assertEqual(parted(tower(range(5)), (10, 20, 25, 25, 0)), (10, 10, 5, 0, -25))

    def test_no_pairs(self):
        dice = Dice(64)
        for count in range(1, 13):
            sums = some_numbers(dice, count)
            self.assertEqual(parted((count, ()), sums), sums)

    def test_each_undoes_the_other(self):
        dice = Dice(65)
        for yard in sample_yards():
            for numbers in [some_numbers(dice, yard[0]) for _ in range(3)] + [(0,) * yard[0], (-1,) * yard[0]]:
                found = parted(yard, numbers)
                self.assertTrue(is_of_tuples_and_numbers(found))
                self.assertEqual(len(found), yard[0])
                self.assertEqual(summed(yard, found), numbers, yard)
                self.assertEqual(parted(yard, summed(yard, numbers)), numbers, yard)

    def test_sums_are_undone_by_weights(self):
        dice = Dice(66)
        for yard in sample_yards():
            sums = some_numbers(dice, yard[0])
            weights = all_weights(yard)
            undone = tuple(sum(weights[(under, thing)] * sums[under] for under in range(yard[0]))
                           for thing in range(yard[0]))
            self.assertEqual(parted(yard, sums), undone, yard)

    def test_very_great_numbers(self):
        great = 10**500
        yard = tower(range(12))
        self.assertEqual(parted(yard, (great,) * 12), (great,) + (0,) * 11)
        self.assertEqual(summed(yard, (great,) * 12), tuple(great * k for k in range(1, 13)))
        self.assertEqual(summed(yard, (great, -great) * 6), (great, 0) * 6)
        self.assertEqual(parted(yard, (great, 0) * 6), (great, -great) * 6)


class BeyondTest(unittest.TestCase):
    """What lies somewhat beyond a bound is not refused."""

    def test_more_things(self):
        dice = Dice(67)
        for count in range(13, 31):
            yard = (count, follows(range(count), told_upwards(dice, count, count)))
            numbers = some_numbers(dice, count)
            self.assertEqual(summed(yard, numbers), sums_by_trying(yard, numbers))
            self.assertEqual(parted(yard, summed(yard, numbers)), numbers)
            for one, other in yard[1]:
                found = [weight(yard, one, thing) for thing in [one] + between(yard, one, other) + [other]]
                self.assertEqual(sum(found), 0)
            for thing in range(count):
                self.assertEqual(weight(yard, thing, thing), 1)
        self.assertEqual(weight(corners_yard(4), 0, 15), 1)
        self.assertEqual(weight(corners_yard(4), 0, 14), -1)

    def test_no_things(self):
        self.assertEqual(summed((0, ()), ()), ())
        self.assertEqual(parted((0, ()), ()), ())


class SameAgainTest(SameAgainCase):
    def test_nothing_is_changed_and_the_same_is_told_again(self):
        dice = Dice(68)
        for yard in sample_yards():
            numbers = some_numbers(dice, yard[0])
            self.assert_same_again(summed, yard, numbers)
            self.assert_same_again(parted, yard, numbers)
            for one in range(0, yard[0], 2):
                self.assert_same_again(weight, yard, one, dice.below(yard[0]))


if __name__ == "__main__":
    unittest.main()
