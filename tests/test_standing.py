import inspect
import unittest

from rankyard.standing import floors, tallest
from samples import (
    TALLEST_TAKEN_MISLEADS, Dice, SameAgainCase, beside_itself, corners_yard, follows, is_of_tuples_and_numbers,
    is_tower, named_by, parts_yard, rows_by_trying, sample_yards, told_upwards, tower, towers_by_trying, two_storeys,
)


def floors_by_trying(yard):
    """Each thing by the most things that a tower which ends with it has, out of all towers."""
    most = {thing: 0 for thing in range(yard[0])}
    for found in towers_by_trying(yard):
        most[found[-1]] = max(most[found[-1]], len(found))
    return tuple(tuple(thing for thing in sorted(most) if most[thing] == size)
                 for size in range(1, max(most.values()) + 1))


class FloorsTest(unittest.TestCase):
    def test_the_argument_bears_its_name(self):
        self.assertEqual(list(inspect.signature(floors).parameters), ["yard"])
        self.assertEqual(floors(yard=(2, ((1, 0),))), ((1,), (0,)))

    def test_one_thing(self):
        self.assertEqual(floors((1, ())), ((0,),))

    def test_no_pairs(self):
        for count in range(1, 13):
            self.assertEqual(floors((count, ())), (tuple(range(count)),))

    def test_one_single_tower(self):
        dice = Dice(21)
        for count in range(1, 13):
            names = dice.shuffled(range(count))
            self.assertEqual(floors((count, named_by(names, tower(range(count))[1]))), tuple((n,) for n in names))

    def test_floors_written_out(self):
        self.assertEqual(floors((3, ((2, 0), (2, 1)))), ((2,), (0, 1)))
        self.assertEqual(floors((4, ((0, 1), (3, 0), (3, 1)))), ((2, 3), (0,), (1,)))
        self.assertEqual(floors(TALLEST_TAKEN_MISLEADS), ((0, 3), (1,), (2, 4), (5,)))
        self.assertEqual(floors(corners_yard()), ((0,), (1, 2, 4), (3, 5, 6), (7,)))
        self.assertEqual(floors(two_storeys()), ((0, 2, 4, 6, 8, 10), (1, 3, 5, 7, 9, 11)))
        self.assertEqual(floors(parts_yard()), ((0,), (1, 2, 4, 6, 10), (3, 5, 8, 9), (7, 11)))

    def test_the_tallest_tower_below_counts_and_not_how_many_stand_below(self):
        many_below = (7, ((0, 5), (1, 5), (2, 5), (3, 4), (3, 6), (4, 6)))
        self.assertEqual(floors(many_below), ((0, 1, 2, 3), (4, 5), (6,)))
        short_way_too = (5, ((0, 3), (1, 2), (1, 3), (1, 4), (2, 3), (2, 4)))
        self.assertEqual(floors(short_way_too), ((0, 1), (2,), (3, 4)))

    def test_held_against_all_towers(self):
        for yard in sample_yards():
            found = floors(yard)
            self.assertEqual(found, floors_by_trying(yard), yard)
            self.assertTrue(is_of_tuples_and_numbers(found), yard)

    def test_each_thing_stands_once_in_rows_that_rise(self):
        for yard in sample_yards():
            found = floors(yard)
            self.assertEqual(sorted(thing for row in found for thing in row), list(range(yard[0])))
            for row in found:
                self.assertIn(row, rows_by_trying(yard))


class TallestTest(unittest.TestCase):
    def test_the_argument_bears_its_name(self):
        self.assertEqual(list(inspect.signature(tallest).parameters), ["yard"])
        self.assertEqual(tallest(yard=(2, ((1, 0),))), (1, 0))

    def test_one_thing(self):
        self.assertEqual(tallest((1, ())), (0,))

    def test_no_pairs(self):
        for count in range(1, 13):
            found = tallest((count, ()))
            self.assertEqual(len(found), 1)
            self.assertIn(found[0], range(count))

    def test_one_single_tower(self):
        dice = Dice(22)
        for count in range(1, 13):
            names = dice.shuffled(range(count))
            self.assertEqual(tallest((count, named_by(names, tower(range(count))[1]))), tuple(names))

    def test_the_only_tallest_one(self):
        self.assertEqual(tallest(TALLEST_TAKEN_MISLEADS), (0, 1, 4, 5))
        self.assertEqual(tallest((5, ((0, 1), (2, 3), (2, 4), (4, 3)))), (2, 4, 3))
        self.assertEqual(tallest((5, ((0, 1), (0, 4), (3, 0), (3, 1), (3, 4), (4, 1)))), (3, 0, 4, 1))

    def test_a_tower_and_none_has_more_things(self):
        for yard in sample_yards():
            found = tallest(yard)
            self.assertTrue(is_of_tuples_and_numbers(found), yard)
            self.assertTrue(is_tower(yard, found), (yard, found))
            self.assertEqual(len(found), max(len(other) for other in towers_by_trying(yard)), yard)

    def test_as_many_things_as_there_are_floors(self):
        for yard in sample_yards():
            self.assertEqual(len(tallest(yard)), len(floors(yard)), yard)


class BeyondTest(unittest.TestCase):
    """What lies somewhat beyond a bound is not refused."""

    def test_more_things(self):
        dice = Dice(23)
        for count in range(13, 31):
            self.assertEqual(floors((count, ())), (tuple(range(count)),))
            self.assertEqual(floors(tower(range(count))), tuple((k,) for k in range(count)))
            self.assertEqual(tallest(tower(range(count))), tuple(range(count)))
            yard = (count, follows(range(count), told_upwards(dice, count, count)))
            found = tallest(yard)
            self.assertTrue(is_tower(yard, found))
            self.assertEqual(len(found), len(floors(yard)))
        tripled = beside_itself(TALLEST_TAKEN_MISLEADS, 3)
        self.assertEqual(floors(tripled), ((0, 3, 6, 9, 12, 15), (1, 7, 13), (2, 4, 8, 10, 14, 16), (5, 11, 17)))

    def test_fourteen_things_held_against_all_towers(self):
        dice = Dice(24)
        for _ in range(5):
            yard = (14, follows(range(14), told_upwards(dice, 14, 20)))
            self.assertEqual(floors(yard), floors_by_trying(yard))

    def test_no_things(self):
        self.assertEqual(floors((0, ())), ())
        self.assertEqual(tallest((0, ())), ())


class SameAgainTest(SameAgainCase):
    def test_nothing_is_changed_and_the_same_is_told_again(self):
        for yard in sample_yards():
            self.assert_same_again(floors, yard)
            self.assert_same_again(tallest, yard)


if __name__ == "__main__":
    unittest.main()
