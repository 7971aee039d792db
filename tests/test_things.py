import copy
import inspect
import unittest

from rankyard.things import is_yard
from samples import (
    Dice, all_relations, all_yards, built_yards, named_by, parts_yard, sample_yards, stands_as_a_yard, tower,
)

ODD_THINGS = [
    True, False, None, "", "0", "1", "ab", (), (0,), (0, 1), ((), ()), [], [0], [0, 1], [[], ()], -1, 13, 10**40,
]


def nested(core, depth, kind):
    for _ in range(depth):
        core = kind([core])
    return core


def with_place(things, place, thing):
    return things[:place] + (thing,) + things[place + 1:]


class IsYardTest(unittest.TestCase):
    def assert_yard(self, thing):
        self.assertIs(is_yard(thing), True, thing)

    def assert_no_yard(self, thing):
        self.assertIs(is_yard(thing), False, thing)

    def test_the_argument_bears_its_name(self):
        self.assertEqual(list(inspect.signature(is_yard).parameters), ["thing"])
        self.assertIs(is_yard(thing=(1, ())), True)

    def test_built_yards(self):
        for yard in built_yards() + list(sample_yards()):
            self.assert_yard(yard)

    def test_yards_written_out(self):
        self.assert_yard((1, ()))
        self.assert_yard((12, ()))
        self.assert_yard((2, ((0, 1),)))
        self.assert_yard((2, ((1, 0),)))
        self.assert_yard((3, ((2, 0), (2, 1))))
        self.assert_yard((3, ((0, 1), (2, 0), (2, 1))))
        self.assert_yard((12, ((11, 0),)))

    def test_a_yard_named_anew_is_a_yard(self):
        dice = Dice(11)
        for _ in range(50):
            names = dice.shuffled(range(12))
            self.assert_yard((12, named_by(names, parts_yard()[1])))

    def test_each_set_of_pairs_of_few_things(self):
        for count in (1, 2, 3):
            for pairs in all_relations(count, True):
                self.assertIs(is_yard((count, pairs)), stands_as_a_yard(pairs), pairs)
        for pairs in all_relations(4, False):
            self.assertIs(is_yard((4, pairs)), stands_as_a_yard(pairs), pairs)

    def test_how_many_yards_there_are(self):
        self.assertEqual([len(all_yards(count)) for count in (1, 2, 3)], [1, 3, 19])
        self.assertEqual(sum(is_yard((4, pairs)) for pairs in all_relations(4, False)), 219)

    def test_a_thing_under_itself(self):
        self.assert_no_yard((1, ((0, 0),)))
        for k in range(12):
            self.assert_no_yard((12, ((k, k),)))
            self.assert_no_yard((12, tuple(sorted(parts_yard()[1] + ((k, k),)))))

    def test_rings(self):
        self.assert_no_yard((2, ((0, 1), (1, 0))))
        self.assert_no_yard((3, ((0, 1), (1, 2), (2, 0))))
        for length in range(2, 13):
            ring = tuple(sorted((k, (k + 1) % length) for k in range(length)))
            everything = tuple((a, b) for a in range(length) for b in range(length))
            self.assert_no_yard((12, ring))
            self.assert_no_yard((12, everything))
            self.assert_no_yard((12, tuple(pair for pair in everything if pair[0] != pair[1])))

    def test_what_follows_left_out(self):
        self.assert_no_yard((3, ((0, 1), (1, 2))))
        self.assert_no_yard((3, ((1, 0), (2, 1))))
        pairs = tower(range(12))[1]
        for pair in pairs:
            left = tuple(other for other in pairs if other != pair)
            follows_of_others = pair[1] - pair[0] > 1
            self.assertIs(is_yard((12, left)), not follows_of_others, pair)

    def test_a_pair_doubled(self):
        self.assert_no_yard((2, ((0, 1), (0, 1))))
        pairs = parts_yard()[1]
        for place in range(len(pairs)):
            self.assert_no_yard((12, pairs[:place] + pairs[place:place + 1] + pairs[place:]))
            self.assert_no_yard((12, pairs + pairs[place:place + 1]))

    def test_pairs_that_do_not_rise(self):
        self.assert_no_yard((3, ((0, 2), (0, 1))))
        self.assert_no_yard((3, ((1, 2), (0, 2))))
        pairs = parts_yard()[1]
        self.assert_no_yard((12, pairs[::-1]))
        for k in range(len(pairs) - 1):
            self.assert_no_yard((12, pairs[:k] + (pairs[k + 1], pairs[k]) + pairs[k + 2:]))

    def test_wrong_counts(self):
        for count in (0, -1, -12, 13, 14, 100, 10**40, -10**40, True, False, "", "1", "12", None, (), (1,), (1, 2),
                      [], [1], ((),)):
            self.assert_no_yard((count, ()))
            self.assert_no_yard((count, ((0, 1),)))

    def test_a_truth_as_count_where_one_would_do(self):
        self.assert_yard((1, ()))
        self.assert_no_yard((True, ()))

    def test_things_out_of_bounds(self):
        for count in range(1, 13):
            for off in (-1, -count, count, count + 1, 12, 13, 10**40, -10**40):
                self.assert_no_yard((count, ((0, off),)))
                self.assert_no_yard((count, ((off, 0),)))
        for off in (-1, 12):
            self.assert_no_yard((12, tuple(sorted(parts_yard()[1] + ((0, off),)))))

    def test_truths_among_the_things(self):
        self.assert_no_yard((2, ((0, True),)))
        self.assert_no_yard((2, ((False, 1),)))
        self.assert_no_yard((2, ((False, True),)))
        self.assert_no_yard((3, ((0, True), (0, 2))))
        self.assert_no_yard((3, ((0, 2), (True, 2))))

    def test_lists_in_the_place_of_tuples(self):
        self.assert_no_yard([2, ((0, 1),)])
        self.assert_no_yard((2, [(0, 1)]))
        self.assert_no_yard((2, ([0, 1],)))
        self.assert_no_yard([2, [[0, 1]]])
        self.assert_no_yard([1, ()])
        self.assert_no_yard((1, []))
        self.assert_no_yard((3, ((0, 1), [0, 2])))
        self.assert_no_yard((3, ([0, 1], (0, 2))))
        self.assert_no_yard((3, ([0, 1], [0, 2])))

    def test_other_lengths(self):
        for thing in ((), (1,), (1, (), ()), (1, (), 1), ((), 1), ((1, ()),), ((1, ()), (1, ()))):
            self.assert_no_yard(thing)
        for pair in ((), (0,), (1,), (0, 1, 2), (0, 1, 1), (0, 1, None), ((0, 1),), ((0, 1), (0, 1))):
            self.assert_no_yard((3, (pair,)))
            self.assert_no_yard((3, ((0, 2), pair)))
            self.assert_no_yard((3, (pair, (0, 2))))
        self.assert_no_yard((2, (0, 1)))

    def test_odd_things_in_every_place(self):
        for odd in ODD_THINGS:
            self.assert_no_yard(odd)
            self.assert_no_yard((odd, ()))
            if odd != ():
                self.assert_no_yard((12, odd))
                self.assert_no_yard((odd, odd))
            for pairs in (((0, 1),), ((0, 1), (0, 2)), parts_yard()[1]):
                self.odd_thing_among_pairs(odd, pairs)

    def odd_thing_among_pairs(self, odd, pairs):
        for place in range(len(pairs)):
            if odd != pairs[place]:
                self.assert_no_yard((12, with_place(pairs, place, odd)))
            for side in (0, 1):
                self.assert_no_yard((12, with_place(pairs, place, with_place(pairs[place], side, odd))))

    def test_deep_things(self):
        for kind in (tuple, list):
            for depth in range(1, 41):
                for core in (0, True, None, "a", (), [], (1, ()), (2, ((0, 1),))):
                    deep = nested(core, depth, kind)
                    self.assert_no_yard(deep)
                    self.assert_no_yard((deep, ()))
                    self.assert_no_yard((2, (deep, deep)))
                    self.assert_no_yard((2, ((0, 1), deep)))
                    self.assert_no_yard((2, ((deep, 1),)))
                    self.assert_no_yard((2, ((0, deep),)))
                    self.assert_no_yard((2, deep))

    def test_broad_and_deep_things(self):
        for kind in (tuple, list):
            broad = kind([0, 1])
            for _ in range(35):
                broad = kind([broad, broad])
            for thing in (broad, (broad, ()), (2, broad), (2, (broad,)), (2, ((0, broad), (broad, 1)))):
                self.assertIs(is_yard(thing), False)

    def test_nothing_is_changed_and_the_same_is_told_again(self):
        things = [[2, [[0, 1]]], (3, [(0, 2), (0, 1)]), (3, ([1, 0], [0, 1])), [[], [[]]], (3, ((0, 2), (0, 1)))]
        for thing in things + built_yards():
            before = copy.deepcopy(thing)
            first = is_yard(thing)
            self.assertEqual(thing, before)
            self.assertIs(is_yard(thing), first)
            self.assertEqual(thing, before)


if __name__ == "__main__":
    unittest.main()
