import inspect
import unittest
from itertools import permutations, product

from rankyard.errors import NoHead, NoLine, RankError
from rankyard.heads import head_of, heads, tops
from samples import (
    TALLEST_TAKEN_MISLEADS, Dice, SameAgainCase, all_yards, beside_itself, corners_yard, follows, heads_by_trying,
    is_of_tuples_and_numbers, named_by, parts_of, parts_yard, sample_yards, told_upwards, tower, two_storeys,
)


def least_heads_with(yard, things):
    """Of all heads in which these things are, those with the fewest things."""
    fitting = [head for head in heads_by_trying(yard) if set(things) <= set(head)]
    return [head for head in fitting if len(head) == min(len(other) for other in fitting)]


def tops_by_trying(yard, head):
    return tuple(thing for thing in head if not any(a == thing and b in head for a, b in yard[1]))


def some_parts(dice, count, size):
    """All ways to take some of few things, else some of those ways."""
    parts = parts_of(count)
    if len(parts) <= size:
        return parts
    return [parts[0], parts[-1]] + [parts[dice.below(len(parts))] for _ in range(size)]


class HeadOfTest(unittest.TestCase):
    def test_the_arguments_bear_their_names(self):
        self.assertEqual(list(inspect.signature(head_of).parameters), ["yard", "things"])
        self.assertEqual(head_of(yard=(2, ((1, 0),)), things=(0,)), (0, 1))

    def test_no_things(self):
        for yard in sample_yards():
            self.assertEqual(head_of(yard, ()), ())

    def test_one_thing(self):
        self.assertEqual(head_of((1, ()), (0,)), (0,))
        for yard in sample_yards():
            for thing in range(yard[0]):
                under = {a for a, b in yard[1] if b == thing}
                self.assertEqual(head_of(yard, (thing,)), tuple(sorted(under | {thing})))

    def test_all_things(self):
        for yard in sample_yards():
            everything = tuple(range(yard[0]))
            self.assertEqual(head_of(yard, everything), everything)
            self.assertEqual(head_of(yard, everything[::-1]), everything)

    def test_heads_written_out(self):
        self.assertEqual(head_of(TALLEST_TAKEN_MISLEADS, (4,)), (0, 1, 3, 4))
        self.assertEqual(head_of(TALLEST_TAKEN_MISLEADS, (3, 2)), (0, 1, 2, 3))
        self.assertEqual(head_of(TALLEST_TAKEN_MISLEADS, (3, 0, 3)), (0, 3))
        self.assertEqual(head_of((4, ((3, 0), (3, 2))), (0,)), (0, 3))
        self.assertEqual(head_of(parts_yard(), (9, 5)), (0, 1, 2, 4, 5, 9))
        self.assertEqual(head_of((5, ()), (4, 1)), (1, 4))

    def test_the_least_head_in_which_they_are(self):
        dice = Dice(41)
        for yard in sample_yards():
            for part in some_parts(dice, yard[0], 16):
                found = head_of(yard, part)
                self.assertEqual([found], least_heads_with(yard, part), (yard, part))
                self.assertTrue(is_of_tuples_and_numbers(found))

    def test_any_order_and_things_that_are_there_twice(self):
        dice = Dice(42)
        for yard in sample_yards():
            for part in some_parts(dice, yard[0], 8):
                found = head_of(yard, part)
                self.assertEqual(head_of(yard, tuple(dice.shuffled(part))), found)
                self.assertEqual(head_of(yard, tuple(dice.shuffled(part * 2 + part[:1]))), found)

    def test_a_head_is_its_own(self):
        for yard in sample_yards()[::3]:
            for head in heads_by_trying(yard):
                self.assertEqual(head_of(yard, head), head)


class TopsTest(unittest.TestCase):
    def test_the_arguments_bear_their_names(self):
        self.assertEqual(list(inspect.signature(tops).parameters), ["yard", "head"])
        self.assertEqual(tops(yard=(2, ((1, 0),)), head=(0, 1)), (0,))

    def test_the_head_without_things(self):
        for yard in sample_yards():
            self.assertEqual(tops(yard, ()), ())

    def test_the_whole_yard(self):
        for yard in sample_yards():
            under_none = set(range(yard[0])) - {a for a, b in yard[1]}
            self.assertEqual(tops(yard, tuple(range(yard[0]))), tuple(sorted(under_none)))

    def test_tops_written_out(self):
        self.assertEqual(tops(TALLEST_TAKEN_MISLEADS, (0, 1, 2, 3)), (2, 3))
        self.assertEqual(tops(TALLEST_TAKEN_MISLEADS, (0, 1, 3, 4)), (4,))
        self.assertEqual(tops(corners_yard(), (0, 1, 2, 3, 4)), (3, 4))
        self.assertEqual(tops(parts_yard(), (0, 1, 2, 4, 5, 9)), (5, 9))
        self.assertEqual(tops((5, ()), (1, 4)), (1, 4))
        self.assertEqual(tops((4, ((3, 0), (3, 2))), (0, 3)), (0,))

    def test_every_head_of_many_yards(self):
        for yard in sample_yards()[::2]:
            for head in heads_by_trying(yard):
                found = tops(yard, head)
                self.assertEqual(found, tops_by_trying(yard, head), (yard, head))
                self.assertEqual(head_of(yard, found), head)
                self.assertTrue(is_of_tuples_and_numbers(found))

    def test_no_two_heads_have_the_same_tops(self):
        for yard in sample_yards()[1::2]:
            found = [tops(yard, head) for head in heads(yard)]
            self.assertEqual(len(set(found)), len(found))


class NoHeadTest(unittest.TestCase):
    def assert_refused(self, yard, head):
        with self.assertRaises(NoHead) as taken:
            tops(yard, head)
        self.assertIsInstance(taken.exception, RankError)
        self.assertIsInstance(taken.exception, ValueError)
        self.assertNotIsInstance(taken.exception, NoLine)

    def test_refusals_written_out(self):
        yard = (3, ((0, 1), (0, 2), (1, 2)))
        for head in ((1,), (2,), (1, 2), (0, 2), (1, 0), (0, 0), (0, 1, 1), (0, 0, 1), (0, 2, 1), (2, 1, 0), (0, 1, 0)):
            self.assert_refused(yard, head)
        self.assert_refused((1, ()), (0, 0))
        self.assert_refused((2, ()), (1, 0))

    def test_a_thing_doubled(self):
        for yard in sample_yards()[::4]:
            for head in heads_by_trying(yard)[1::5]:
                for k in range(len(head)):
                    self.assert_refused(yard, head[:k] + head[k:k + 1] + head[k:])
                    self.assert_refused(yard, head + head[k:k + 1])

    def test_a_head_that_does_not_rise(self):
        for yard in sample_yards()[::4]:
            for head in heads_by_trying(yard)[1::5]:
                for k in range(len(head) - 1):
                    self.assert_refused(yard, head[:k] + (head[k + 1], head[k]) + head[k + 2:])
        for order in permutations(range(5)):
            if order != (0, 1, 2, 3, 4):
                self.assert_refused((7, ()), order)

    def test_a_thing_left_out_that_stands_under_another_one(self):
        for yard in sample_yards()[::4]:
            for head in heads_by_trying(yard)[1::5]:
                for thing in set(head) - set(tops_by_trying(yard, head)):
                    self.assert_refused(yard, tuple(other for other in head if other != thing))

    def test_every_tuple_of_few_things(self):
        for count in (1, 2, 3):
            for yard in all_yards(count):
                for length in range(count + 2):
                    for things in product(range(count), repeat=length):
                        if things in heads_by_trying(yard):
                            self.assertEqual(tops(yard, things), tops_by_trying(yard, things))
                        else:
                            self.assert_refused(yard, things)

    def test_every_way_to_take_some_of_twelve_things(self):
        for yard in (parts_yard(), two_storeys(), beside_itself(TALLEST_TAKEN_MISLEADS, 2)):
            known = set(heads_by_trying(yard))
            for part in parts_of(12):
                if part in known:
                    self.assertEqual(tops(yard, part), tops_by_trying(yard, part))
                else:
                    self.assert_refused(yard, part)

    def test_numbers_that_are_no_things_of_the_yard(self):
        for count in range(1, 13):
            for head in ((count,), (-1,), (-1, 0), (0, count), tuple(range(count + 1))):
                self.assert_refused((count, ()), head)


class HeadsTest(unittest.TestCase):
    def test_the_argument_bears_its_name(self):
        self.assertEqual(list(inspect.signature(heads).parameters), ["yard"])
        self.assertEqual(heads(yard=(2, ((1, 0),))), ((), (1,), (0, 1)))

    def test_one_thing(self):
        self.assertEqual(heads((1, ())), ((), (0,)))

    def test_no_pairs(self):
        self.assertEqual(heads((3, ())), ((), (0,), (1,), (2,), (0, 1), (0, 2), (1, 2), (0, 1, 2)))
        for count in range(1, 13):
            self.assertEqual(heads((count, ())), parts_of(count))

    def test_one_single_tower(self):
        dice = Dice(43)
        for count in range(1, 13):
            names = dice.shuffled(range(count))
            found = heads((count, named_by(names, tower(range(count))[1])))
            self.assertEqual(found, tuple(tuple(sorted(names[:size])) for size in range(count + 1)))

    def test_heads_written_out(self):
        self.assertEqual(heads((4, ((0, 2), (0, 3), (1, 2)))), (
            (), (0,), (1,), (0, 1), (0, 3), (0, 1, 2), (0, 1, 3), (0, 1, 2, 3)))
        self.assertEqual(heads((3, ((2, 0), (2, 1)))), ((), (2,), (0, 2), (1, 2), (0, 1, 2)))

    def test_how_many_there_are(self):
        self.assertEqual(len(heads(corners_yard())), 20)
        self.assertEqual(len(heads(two_storeys())), 127)

    def test_all_of_them_in_their_order(self):
        for yard in sample_yards():
            found = heads(yard)
            self.assertEqual(found, heads_by_trying(yard), yard)
            self.assertTrue(is_of_tuples_and_numbers(found))
            self.assertEqual(found[0], ())
            self.assertEqual(found[-1], tuple(range(yard[0])))
            self.assertEqual(len(set(found)), len(found))


class BeyondTest(unittest.TestCase):
    """What lies somewhat beyond a bound is not refused."""

    def test_more_things(self):
        dice = Dice(44)
        for count in (13, 14, 15):
            self.assertEqual(len(heads((count, ()))), 2**count)
            yard = (count, follows(range(count), told_upwards(dice, count, 20)))
            found = heads(yard)
            self.assertEqual(found, heads_by_trying(yard))
            for head in found:
                self.assertEqual(head_of(yard, tops(yard, head)), head)
        for count in range(16, 31):
            yard = tower(range(count))
            self.assertEqual(heads(yard), tuple(tuple(range(size)) for size in range(count + 1)))
            self.assertEqual(head_of(yard, (count - 1, 0)), tuple(range(count)))
            self.assertEqual(tops(yard, tuple(range(count))), (count - 1,))

    def test_no_things(self):
        self.assertEqual(heads((0, ())), ((),))
        self.assertEqual(head_of((0, ()), ()), ())
        self.assertEqual(tops((0, ()), ()), ())


class SameAgainTest(SameAgainCase):
    def test_nothing_is_changed_and_the_same_is_told_again(self):
        dice = Dice(45)
        for yard in sample_yards():
            self.assert_same_again(heads, yard)
            for part in some_parts(dice, yard[0], 4):
                self.assert_same_again(head_of, yard, tuple(dice.shuffled(part + part[:2])))
                self.assert_same_again(tops, yard, head_of(yard, part))

    def test_what_is_refused_is_refused_again(self):
        yard = (2, ((0, 1),))
        head = (1,)
        for _ in range(3):
            with self.assertRaises(NoHead):
                tops(yard, head)
        self.assertEqual((yard, head), ((2, ((0, 1),)), (1,)))


if __name__ == "__main__":
    unittest.main()
