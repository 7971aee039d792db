import inspect
import unittest

from rankyard.towers import broadest, towers
from samples import (
    FIRST_TAKEN_MISLEADS, TALLEST_TAKEN_MISLEADS, Dice, SameAgainCase, beside_itself, corners_yard, follows,
    is_of_tuples_and_numbers, is_tower, misleading_yards, named_by, parts_yard, rows_by_trying, sample_yards,
    told_upwards, tower, towers_by_trying, two_storeys,
)


def taken_tallest_first(yard):
    """How many towers there are for who takes, again and again, a tallest one of the things that are left."""
    left = set(range(yard[0]))
    taken = 0
    while left:
        left -= set(max((found for found in towers_by_trying(yard) if set(found) <= left), key=len))
        taken += 1
    return taken


def taken_as_offered(yard):
    """How many towers there are for who takes, again and again, the first one that offers itself."""
    left = list(range(yard[0]))
    taken = 0
    while left:
        offered = [thing for thing in left if not any((other, thing) in yard[1] for other in left)]
        while offered:
            left.remove(offered[0])
            over = [thing for thing in left if (offered[0], thing) in yard[1]]
            offered = [thing for thing in over if not any((other, thing) in yard[1] for other in over)]
        taken += 1
    return taken


def breadth_by_trying(yard):
    return max(len(row) for row in rows_by_trying(yard))


class BroadestTest(unittest.TestCase):
    def test_the_argument_bears_its_name(self):
        self.assertEqual(list(inspect.signature(broadest).parameters), ["yard"])
        self.assertEqual(broadest(yard=(3, ((2, 0), (2, 1)))), (0, 1))

    def test_one_thing(self):
        self.assertEqual(broadest((1, ())), (0,))

    def test_no_pairs(self):
        for count in range(1, 13):
            self.assertEqual(broadest((count, ())), tuple(range(count)))

    def test_one_single_tower(self):
        dice = Dice(31)
        for count in range(1, 13):
            names = dice.shuffled(range(count))
            found = broadest((count, named_by(names, tower(range(count))[1])))
            self.assertEqual(len(found), 1)
            self.assertIn(found[0], range(count))

    def test_the_only_broadest_one(self):
        self.assertEqual(broadest((3, ((0, 1), (0, 2)))), (1, 2))
        self.assertEqual(broadest((3, ((0, 2), (1, 2)))), (0, 1))
        self.assertEqual(broadest((4, ((0, 2), (0, 3), (1, 2), (1, 3), (2, 3)))), (0, 1))
        across_floors = (5, ((0, 1), (0, 2), (1, 2), (3, 4)))
        self.assertEqual(len(broadest(across_floors)), 2)
        lopsided = (6, ((0, 1), (0, 2), (0, 3), (1, 2), (1, 3), (4, 3), (4, 5)))
        self.assertEqual(broadest(lopsided), (2, 3, 5))

    def test_broader_than_any_floor(self):
        # Its floors are (0, 3), (1,) and (2, 4).
        yard = (5, ((0, 1), (0, 2), (0, 4), (1, 2), (1, 4)))
        self.assertEqual(broadest(yard), (2, 3, 4))

    def test_a_row_and_none_is_broader(self):
        for yard in sample_yards():
            found = broadest(yard)
            self.assertTrue(is_of_tuples_and_numbers(found), yard)
            self.assertIn(found, rows_by_trying(yard), yard)
            self.assertEqual(len(found), breadth_by_trying(yard), yard)

    def test_well_known_yards(self):
        self.assertEqual(len(broadest(corners_yard())), 3)
        self.assertEqual(len(broadest(two_storeys())), 6)
        self.assertEqual(len(broadest(parts_yard())), 6)


class TowersTest(unittest.TestCase):
    def assert_parted(self, yard, found):
        self.assertTrue(is_of_tuples_and_numbers(found), yard)
        for part in found:
            self.assertTrue(is_tower(yard, part), (yard, found))
        self.assertEqual(sorted(thing for part in found for thing in part), list(range(yard[0])), yard)

    def test_the_argument_bears_its_name(self):
        self.assertEqual(list(inspect.signature(towers).parameters), ["yard"])
        self.assertEqual(towers(yard=(2, ((1, 0),))), ((1, 0),))

    def test_one_thing(self):
        self.assertEqual(towers((1, ())), ((0,),))

    def test_no_pairs(self):
        for count in range(1, 13):
            self.assertEqual(sorted(towers((count, ()))), [(k,) for k in range(count)])

    def test_one_single_tower(self):
        dice = Dice(32)
        for count in range(1, 13):
            names = dice.shuffled(range(count))
            self.assertEqual(towers((count, named_by(names, tower(range(count))[1]))), (tuple(names),))

    def test_the_only_way_to_part(self):
        self.assertEqual(sorted(towers(FIRST_TAKEN_MISLEADS)), [(0, 3), (1, 2)])
        self.assertEqual(sorted(towers((4, ((0, 1), (2, 1), (2, 3))))), [(0, 1), (2, 3)])

    def test_as_many_as_the_broadest_row_has_things(self):
        for yard in sample_yards():
            found = towers(yard)
            self.assert_parted(yard, found)
            self.assertEqual(len(found), breadth_by_trying(yard), yard)
            self.assertEqual(len(found), len(broadest(yard)), yard)

    def test_where_taking_one_by_one_gives_too_many(self):
        for times in (1, 2, 3):
            yard = beside_itself(FIRST_TAKEN_MISLEADS, times)
            self.assertGreater(taken_as_offered(yard), 2 * times)
            self.assertEqual(len(towers(yard)), 2 * times)
        for times in (1, 2):
            yard = beside_itself(TALLEST_TAKEN_MISLEADS, times)
            self.assertGreater(taken_tallest_first(yard), 2 * times)
            self.assertEqual(len(towers(yard)), 2 * times)

    def test_many_are_tested_where_taking_one_by_one_gives_too_many(self):
        for taking, least in ((taken_tallest_first, 50), (taken_as_offered, 50)):
            misled = [yard for yard in sample_yards() if taking(yard) > breadth_by_trying(yard)]
            self.assertGreaterEqual(len(misled), least)
            self.assertGreaterEqual(sum(yard[0] == 12 for yard in misled), 10)

    def test_misleading_yards_under_many_names(self):
        for yard in misleading_yards():
            found = towers(yard)
            self.assert_parted(yard, found)
            self.assertEqual(len(found), breadth_by_trying(yard))

    def test_things_that_give_way_in_a_long_row(self):
        # A fence: each lower thing k stands under the upper ones k and k + 1; only one way saves six towers.
        fence = (12, tuple(sorted([(k, 6 + k) for k in range(6)] + [(k, 7 + k) for k in range(5)])))
        self.assertEqual(sorted(towers(fence)), [(k, 6 + k) for k in range(6)])
        dice = Dice(33)
        for _ in range(60):
            names = dice.shuffled(range(12))
            found = towers((12, named_by(names, fence[1])))
            self.assertEqual(sorted(found), sorted((names[k], names[6 + k]) for k in range(6)))


class BeyondTest(unittest.TestCase):
    """What lies somewhat beyond a bound is not refused."""

    def test_more_things(self):
        dice = Dice(34)
        for count in range(13, 31):
            self.assertEqual(broadest((count, ())), tuple(range(count)))
            self.assertEqual(towers(tower(range(count))), (tuple(range(count)),))
            yard = (count, follows(range(count), told_upwards(dice, count, count)))
            row = broadest(yard)
            found = towers(yard)
            self.assertEqual(row, tuple(sorted(set(row))))
            self.assertFalse(any((a, b) in yard[1] for a in row for b in row))
            self.assertTrue(all(is_tower(yard, part) for part in found))
            self.assertEqual(sorted(thing for part in found for thing in part), list(range(count)))
            # As many towers as things in a row: then there can't be fewer towers, nor a broader row.
            self.assertEqual(len(found), len(row))

    def test_no_things(self):
        self.assertEqual(broadest((0, ())), ())
        self.assertEqual(towers((0, ())), ())


class SameAgainTest(SameAgainCase):
    def test_nothing_is_changed_and_the_same_is_told_again(self):
        for yard in sample_yards():
            self.assert_same_again(broadest, yard)
            self.assert_same_again(towers, yard)


if __name__ == "__main__":
    unittest.main()
