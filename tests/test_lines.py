import inspect
import unittest
from itertools import permutations, product
from math import factorial

from rankyard.changes import part_of
from rankyard.errors import NoHead, NoLine, RankError
from rankyard.heads import tops
from rankyard.lines import first_line, line_with, lines
from samples import (
    FIRST_TAKEN_MISLEADS, TALLEST_TAKEN_MISLEADS, Dice, SameAgainCase, beside_itself, corners_yard, few_things, follows,
    heads_by_trying, is_line, is_of_tuples_and_numbers, lines_by_trying, named_anew, named_by, parts_yard, sample_yards,
    told_upwards, tower, two_storeys,
)


def may_come_earlier(yard, line):
    """Whether at some place a lesser thing, of those that come behind, might have come instead."""
    for k, thing in enumerate(line):
        left = set(line[k:])
        over_others = {b for a, b in yard[1] if a in left}
        if min(left - over_others) < thing:
            return True
    return False


def ways_up(yard):
    """In how many ways one comes from no thing up to all things, by one thing each, by way of heads alone."""
    ways = {head: 0 for head in heads_by_trying(yard)}
    ways[()] = 1
    for head in heads_by_trying(yard):
        for thing in set(range(yard[0])) - set(head):
            more = tuple(sorted(head + (thing,)))
            if more in ways:
                ways[more] += ways[head]
    return ways[tuple(range(yard[0]))]


def grid_yard(rows, columns):
    """Each place under those that lie neither more to the left nor further up."""
    places = list(product(range(rows), range(columns)))
    return (len(places), tuple((a, b) for a, one in enumerate(places) for b, other in enumerate(places)
                               if a != b and one[0] <= other[0] and one[1] <= other[1]))


def fence_yard(count):
    """Every other thing stands under its neighbours."""
    return (count, tuple((a, b) for a in range(0, count, 2) for b in (a - 1, a + 1) if 0 <= b < count))


class FirstLineTest(unittest.TestCase):
    def test_the_argument_bears_its_name(self):
        self.assertEqual(list(inspect.signature(first_line).parameters), ["yard"])
        self.assertEqual(first_line(yard=(2, ((1, 0),))), (1, 0))

    def test_one_thing(self):
        self.assertEqual(first_line((1, ())), (0,))

    def test_no_pairs(self):
        for count in range(1, 13):
            self.assertEqual(first_line((count, ())), tuple(range(count)))

    def test_one_single_tower(self):
        dice = Dice(51)
        for count in range(1, 13):
            names = dice.shuffled(range(count))
            self.assertEqual(first_line((count, named_by(names, tower(range(count))[1]))), tuple(names))
        for names in permutations(range(5)):
            self.assertEqual(first_line((5, named_by(names, tower(range(5))[1]))), names)

    def test_lines_written_out(self):
        self.assertEqual(first_line((4, ((2, 0), (3, 1)))), (2, 0, 3, 1))
        self.assertEqual(first_line((4, ((3, 0),))), (1, 2, 3, 0))
        self.assertEqual(first_line((5, ((3, 1), (4, 0)))), (2, 3, 1, 4, 0))
        self.assertEqual(first_line((5, ((0, 1), (0, 4), (3, 0), (3, 1), (3, 4), (4, 1)))), (2, 3, 0, 4, 1))
        self.assertEqual(first_line(TALLEST_TAKEN_MISLEADS), (0, 1, 2, 3, 4, 5))
        self.assertEqual(first_line((12, tuple((11, k) for k in range(11)))), (11,) + tuple(range(11)))
        self.assertEqual(first_line((12, tuple((k, 0) for k in range(1, 12)))), tuple(range(1, 12)) + (0,))
        self.assertEqual(first_line((12, ((11, 0),))), tuple(range(1, 12)) + (0,))

    def test_not_floor_by_floor(self):
        # Its floors are (0, 3, 4), (1, 5) and (2,).
        self.assertEqual(first_line((6, ((0, 1), (0, 2), (1, 2), (3, 5), (4, 5)))), (0, 1, 2, 3, 4, 5))

    def test_held_against_all_orders(self):
        for yard in few_things():
            self.assertEqual(first_line(yard), lines_by_trying(yard)[0], yard)

    def test_a_line_before_which_none_comes(self):
        for yard in sample_yards():
            found = first_line(yard)
            self.assertTrue(is_of_tuples_and_numbers(found))
            self.assertTrue(is_line(yard, found), (yard, found))
            self.assertFalse(may_come_earlier(yard, found), (yard, found))


class LinesTest(unittest.TestCase):
    def assert_number(self, yard, number):
        found = lines(yard)
        self.assertIs(type(found), int)
        self.assertEqual(found, number, yard)

    def test_the_argument_bears_its_name(self):
        self.assertEqual(list(inspect.signature(lines).parameters), ["yard"])
        self.assertEqual(lines(yard=(3, ((1, 0),))), 3)

    def test_one_thing(self):
        self.assert_number((1, ()), 1)

    def test_no_pairs(self):
        for count in range(1, 13):
            self.assert_number((count, ()), factorial(count))
        self.assert_number((12, ()), 479001600)

    def test_one_single_tower(self):
        dice = Dice(52)
        for count in range(1, 13):
            self.assert_number(named_anew(dice, tower(range(count))), 1)

    def test_numbers_written_out(self):
        self.assert_number((4, ((0, 2), (0, 3), (1, 2))), 5)
        self.assert_number((12, ((7, 3),)), 239500800)
        self.assert_number(corners_yard(), 48)
        self.assert_number(two_storeys(), 518400)
        self.assert_number(beside_itself(tower(range(2)), 6), 7484400)
        self.assert_number(beside_itself(tower(range(6)), 2), 924)
        self.assert_number((12, tuple((k, 11) for k in range(11))), 39916800)

    def test_grids(self):
        for columns, number in ((1, 1), (2, 2), (3, 5), (4, 14), (5, 42), (6, 132)):
            self.assert_number(grid_yard(2, columns), number)
            self.assert_number(grid_yard(columns, 2), number)
        self.assert_number(grid_yard(3, 3), 42)
        self.assert_number(grid_yard(3, 4), 462)

    def test_fences(self):
        numbers = (1, 1, 2, 5, 16, 61, 272, 1385, 7936, 50521, 353792, 2702765)
        for count, number in enumerate(numbers, start=1):
            self.assert_number(fence_yard(count), number)

    def test_held_against_all_orders(self):
        for yard in few_things():
            self.assert_number(yard, len(lines_by_trying(yard)))

    def test_as_many_as_ways_up_from_head_to_head(self):
        for yard in sample_yards():
            self.assert_number(yard, ways_up(yard))

    def test_as_many_as_without_one_top_each(self):
        for yard in sample_yards():
            everything = tuple(range(yard[0]))
            if yard[0] > 1:
                left = [tuple(thing for thing in everything if thing != top) for top in tops(yard, everything)]
                self.assert_number(yard, sum(lines(part_of(yard, things)) for things in left))


class LineWithTest(unittest.TestCase):
    def assert_refused(self, yard, one, other):
        with self.assertRaises(NoLine) as taken:
            line_with(yard, one, other)
        self.assertIsInstance(taken.exception, RankError)
        self.assertIsInstance(taken.exception, ValueError)
        self.assertNotIsInstance(taken.exception, NoHead)

    def assert_ahead(self, yard, one, other):
        found = line_with(yard, one, other)
        self.assertTrue(is_of_tuples_and_numbers(found))
        self.assertTrue(is_line(yard, found), (yard, one, other, found))
        self.assertLess(found.index(one), found.index(other), (yard, one, other, found))

    def test_the_arguments_bear_their_names(self):
        self.assertEqual(list(inspect.signature(line_with).parameters), ["yard", "one", "other"])
        self.assertEqual(line_with(yard=(2, ()), one=1, other=0), (1, 0))
        self.assertEqual(line_with(other=1, one=0, yard=(2, ())), (0, 1))

    def test_the_only_line(self):
        self.assertEqual(line_with((2, ((1, 0),)), 1, 0), (1, 0))
        self.assertEqual(line_with((3, ((0, 1),)), 2, 0), (2, 0, 1))
        self.assertEqual(line_with((4, ((0, 2), (1, 2), (1, 3))), 3, 0), (1, 3, 0, 2))
        self.assertEqual(line_with((4, ((0, 1), (2, 3))), 3, 0), (2, 3, 0, 1))
        dice = Dice(53)
        for count in range(2, 13):
            names = dice.shuffled(range(count))
            yard = (count, named_by(names, tower(range(count))[1]))
            self.assertEqual(line_with(yard, names[0], names[-1]), tuple(names))
            self.assert_refused(yard, names[-1], names[0])

    def test_refusals_written_out(self):
        self.assert_refused((1, ()), 0, 0)
        self.assert_refused((2, ()), 1, 1)
        self.assert_refused((2, ((0, 1),)), 1, 0)
        self.assert_refused((2, ((1, 0),)), 0, 1)
        self.assert_refused((3, ((0, 1), (0, 2), (1, 2))), 2, 0)
        self.assert_refused(parts_yard(), 11, 2)

    def test_each_two_things_of_many_yards(self):
        for yard in sample_yards():
            for one, other in product(range(yard[0]), repeat=2):
                if one == other or (other, one) in yard[1]:
                    self.assert_refused(yard, one, other)
                else:
                    self.assert_ahead(yard, one, other)

    def test_refused_just_where_no_order_does(self):
        for yard in few_things():
            ahead = {two: False for two in product(range(yard[0]), repeat=2)}
            for line in lines_by_trying(yard):
                for k, one in enumerate(line):
                    for other in line[k + 1:]:
                        ahead[(one, other)] = True
            for one, other in ahead:
                if ahead[(one, other)]:
                    self.assert_ahead(yard, one, other)
                else:
                    self.assert_refused(yard, one, other)

    def test_numbers_that_are_no_things_of_the_yard(self):
        for count in range(1, 13):
            for foreign in (count, count + 1, -1):
                self.assert_refused((count, ()), 0, foreign)
                self.assert_refused((count, ()), foreign, 0)
                self.assert_refused((count, ()), foreign, foreign)


class BeyondTest(unittest.TestCase):
    """What lies somewhat beyond a bound is not refused."""

    def test_more_things(self):
        dice = Dice(54)
        for count in range(13, 31):
            self.assertEqual(first_line((count, ())), tuple(range(count)))
            names = tuple(dice.shuffled(range(count)))
            yard = (count, named_by(names, tower(range(count))[1]))
            self.assertEqual(first_line(yard), names)
            self.assertEqual(lines(yard), 1)
            self.assertEqual(line_with(yard, names[3], names[9]), names)
            yard = (count, follows(range(count), told_upwards(dice, count, count)))
            self.assertTrue(is_line(yard, first_line(yard)))
            self.assertFalse(may_come_earlier(yard, first_line(yard)))
            for one, other in product(range(count), repeat=2):
                if one == other or (other, one) in yard[1]:
                    self.assertRaises(NoLine, line_with, yard, one, other)
                else:
                    found = line_with(yard, one, other)
                    self.assertTrue(is_line(yard, found) and found.index(one) < found.index(other))

    def test_more_lines(self):
        for count in (13, 14):
            self.assertEqual(lines((count, ())), factorial(count))
        self.assertEqual(lines(corners_yard(4)), 1680384)
        self.assertEqual(lines(grid_yard(2, 10)), 16796)
        self.assertEqual(lines(grid_yard(4, 4)), 24024)
        self.assertEqual(lines(beside_itself(FIRST_TAKEN_MISLEADS, 4)), 5**4 * factorial(16) // factorial(4)**4)

    def test_no_things(self):
        self.assertEqual(first_line((0, ())), ())
        self.assertEqual(lines((0, ())), 1)


class SameAgainTest(SameAgainCase):
    def test_nothing_is_changed_and_the_same_is_told_again(self):
        for yard in sample_yards():
            self.assert_same_again(first_line, yard)
            self.assert_same_again(lines, yard)
            for one, other in product(range(yard[0]), repeat=2):
                if (one + other) % 3 == 1 and one != other and (other, one) not in yard[1]:
                    self.assert_same_again(line_with, yard, one, other)

    def test_what_is_refused_is_refused_again(self):
        yard = (2, ((0, 1),))
        for one, other in ((1, 0), (1, 1), (0, 0)) * 3:
            with self.assertRaises(NoLine):
                line_with(yard, one, other)
        self.assertEqual(yard, (2, ((0, 1),)))


if __name__ == "__main__":
    unittest.main()
