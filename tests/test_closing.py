import inspect
import unittest

from rankyard.closing import closed, covers
from rankyard.things import is_yard
from samples import (
    Dice, all_relations, all_yards, built_yards, corners_yard, follows, parts_yard, told_anyhow, told_upwards, tower,
    two_storeys,
)


def has_ring(count, pairs):
    return any(a == b for a, b in follows(range(count), pairs))


class ClosedCase(unittest.TestCase):
    def assert_closed(self, count, pairs):
        """Whatever comes must be right: the least yard where there is one, else a ring."""
        answer = closed(count, pairs)
        self.assertIs(type(answer), tuple)
        self.assertEqual(len(answer), 2)
        if has_ring(count, pairs):
            self.assert_ring(answer, pairs)
        else:
            self.assertEqual(answer, ("yard", (count, follows(range(count), pairs))))
            self.assertEqual(is_yard(answer[1]), 1 <= count <= 12)
            self.assertLessEqual(set(pairs), set(answer[1][1]))

    def assert_ring(self, answer, pairs):
        self.assertEqual(answer[0], "ring", pairs)
        ring = answer[1]
        self.assertIs(type(ring), tuple)
        self.assertGreaterEqual(len(ring), 1)
        self.assertEqual(len(set(ring)), len(ring), ring)
        for k in range(len(ring)):
            self.assertIs(type(ring[k]), int)
            self.assertIn((ring[k], ring[(k + 1) % len(ring)]), pairs)


class ClosedTest(ClosedCase):
    def test_the_arguments_bear_their_names(self):
        self.assertEqual(list(inspect.signature(closed).parameters), ["count", "pairs"])
        self.assertEqual(closed(count=2, pairs=((1, 0),)), ("yard", (2, ((1, 0),))))

    def test_no_pairs(self):
        for count in range(1, 13):
            self.assertEqual(closed(count, ()), ("yard", (count, ())))

    def test_yards_written_out(self):
        self.assertEqual(closed(3, ((1, 2), (0, 1))), ("yard", (3, ((0, 1), (0, 2), (1, 2)))))
        self.assertEqual(closed(3, ((2, 1), (1, 0))), ("yard", (3, ((1, 0), (2, 0), (2, 1)))))
        self.assertEqual(closed(4, ((3, 2), (0, 1), (3, 2))), ("yard", (4, ((0, 1), (3, 2)))))
        self.assertEqual(closed(2, ((0, 1),) * 40), ("yard", (2, ((0, 1),))))
        self.assertEqual(closed(12, ((10, 2), (10, 11))), ("yard", (12, ((10, 2), (10, 11)))))

    def test_the_least_yard_of_few_things(self):
        for count in (1, 2, 3):
            yards = all_yards(count)
            for pairs in all_relations(count, True):
                fitting = [yard for yard in yards if set(pairs) <= set(yard[1])]
                answer = closed(count, pairs)
                if fitting:
                    least = min(len(yard[1]) for yard in fitting)
                    self.assertEqual([answer], [("yard", yard) for yard in fitting if len(yard[1]) == least])
                else:
                    self.assert_ring(answer, pairs)

    def test_each_set_of_pairs_of_four_things(self):
        for pairs in all_relations(4, False):
            self.assert_closed(4, pairs)

    def test_what_follows_in_many_steps(self):
        for count in range(1, 13):
            steps = tuple((k, k + 1) for k in range(count - 1))
            self.assertEqual(closed(count, steps), ("yard", tower(range(count))))
            self.assertEqual(closed(count, steps[::-1]), ("yard", tower(range(count))))
            downwards = tuple((k + 1, k) for k in range(count - 1))
            self.assertEqual(closed(count, downwards), ("yard", tower(range(count - 1, -1, -1))))

    def test_pairs_without_a_ring(self):
        dice = Dice(1)
        for _ in range(300):
            count = 1 + dice.below(12)
            self.assert_closed(count, told_upwards(dice, count, dice.below(41)))

    def test_forty_pairs(self):
        dice = Dice(2)
        for _ in range(60):
            pairs = told_upwards(dice, 12, 40)
            self.assertEqual(len(pairs), 40)
            self.assertEqual(closed(12, pairs)[0], "yard")
            self.assert_closed(12, pairs)
            self.assert_closed(12, told_anyhow(dice, 12, 40))

    def test_the_order_and_doubled_pairs_change_no_yard(self):
        dice = Dice(3)
        for _ in range(100):
            count = 2 + dice.below(11)
            pairs = told_upwards(dice, count, 1 + dice.below(13))
            answer = closed(count, pairs)
            self.assertEqual(answer[0], "yard")
            self.assertEqual(closed(count, tuple(dice.shuffled(pairs * 3))), answer)

    def test_a_yard_closed_is_itself(self):
        for count, pairs in built_yards():
            self.assertEqual(closed(count, pairs), ("yard", (count, pairs)))


class RingTest(ClosedCase):
    def test_a_thing_under_itself(self):
        self.assertEqual(closed(1, ((0, 0),)), ("ring", (0,)))
        for k in range(12):
            self.assertEqual(closed(12, ((k, k),)), ("ring", (k,)))
            self.assertEqual(closed(12, parts_yard()[1] + ((k, k),)), ("ring", (k,)))

    def test_rings_of_every_length(self):
        dice = Dice(4)
        for length in range(2, 13):
            for _ in range(20):
                names = dice.shuffled(range(12))[:length]
                ring = [(names[k], names[(k + 1) % length]) for k in range(length)]
                pairs = tuple(dice.shuffled(ring))
                answer = closed(12, pairs)
                self.assert_ring(answer, pairs)
                self.assertEqual(len(answer[1]), length)

    def test_a_ring_with_pairs_into_it_and_out_of_it(self):
        leading = ((0, 1), (1, 2), (2, 3), (3, 4), (4, 2), (4, 5), (5, 6), (0, 6), (7, 3))
        dice = Dice(6)
        for _ in range(100):
            names = dice.shuffled(range(12))
            pairs = tuple(dice.shuffled([(names[a], names[b]) for a, b in leading]))
            answer = closed(12, pairs)
            self.assert_ring(answer, pairs)
            self.assertEqual(sorted(answer[1]), sorted((names[2], names[3], names[4])))

    def test_rings_that_share_things(self):
        for pairs in (
            ((0, 1), (1, 0), (1, 2), (2, 1)),
            ((0, 1), (1, 2), (2, 0), (2, 3), (3, 0), (3, 3)),
            ((0, 1), (1, 2), (2, 3), (3, 1), (3, 0)),
            ((5, 4), (4, 3), (3, 5), (3, 4), (4, 5), (5, 3)),
            tuple((a, b) for a in range(6) for b in range(6)),
        ):
            self.assert_closed(6, pairs)
            self.assert_closed(6, pairs[::-1])

    def test_any_pairs(self):
        dice = Dice(7)
        rings = 0
        for _ in range(600):
            count = 1 + dice.below(12)
            pairs = told_anyhow(dice, count, dice.below(min(41, 2 * count)))
            self.assert_closed(count, pairs)
            rings += has_ring(count, pairs)
        self.assertTrue(100 < rings < 500, rings)


class CoversTest(unittest.TestCase):
    def assert_covers(self, yard):
        found = covers(yard)
        self.assertIs(type(found), tuple)
        pairs = set(yard[1])
        bare = [(a, b) for a, b in yard[1]
                if not any((a, c) in pairs and (c, b) in pairs for c in range(yard[0]))]
        self.assertEqual(found, tuple(sorted(bare)))
        self.assertEqual(closed(yard[0], found), ("yard", yard))

    def test_the_argument_bears_its_name(self):
        self.assertEqual(list(inspect.signature(covers).parameters), ["yard"])
        self.assertEqual(covers(yard=(2, ((1, 0),))), ((1, 0),))

    def test_no_pairs(self):
        for count in range(1, 13):
            self.assertEqual(covers((count, ())), ())

    def test_covers_written_out(self):
        self.assertEqual(covers((3, ((0, 1), (0, 2), (1, 2)))), ((0, 1), (1, 2)))
        self.assertEqual(covers((3, ((0, 1), (0, 2)))), ((0, 1), (0, 2)))
        self.assertEqual(covers((3, ((1, 0), (2, 0), (2, 1)))), ((1, 0), (2, 1)))
        self.assertEqual(covers((4, ((0, 1), (0, 2), (0, 3), (1, 3), (2, 3)))), ((0, 1), (0, 2), (1, 3), (2, 3)))

    def test_towers(self):
        dice = Dice(8)
        for count in range(1, 13):
            names = dice.shuffled(range(count))
            steps = tuple(sorted((names[k], names[k + 1]) for k in range(count - 1)))
            pairs = tuple(sorted((names[a], names[b]) for a in range(count) for b in range(a + 1, count)))
            self.assertEqual(covers((count, pairs)), steps)

    def test_yards_where_much_follows(self):
        self.assertEqual(len(covers(corners_yard())), 12)
        self.assertEqual(covers(two_storeys()), two_storeys()[1])
        for yard in built_yards():
            self.assert_covers(yard)

    def test_each_yard_of_few_things(self):
        for count in (1, 2, 3):
            for yard in all_yards(count):
                self.assert_covers(yard)

    def test_none_of_the_covers_can_be_spared(self):
        for yard in (parts_yard(), corners_yard(), two_storeys()):
            found = covers(yard)
            for pair in found:
                left = tuple(other for other in found if other != pair)
                self.assertNotIn(pair, closed(yard[0], left)[1][1])


class BeyondTest(ClosedCase):
    """What lies somewhat beyond a bound is not refused."""

    def test_more_things(self):
        dice = Dice(9)
        for count in range(13, 31):
            self.assertEqual(closed(count, ()), ("yard", (count, ())))
            self.assert_closed(count, told_upwards(dice, count, 40))
            self.assert_closed(count, told_anyhow(dice, count, 40))
            steps = tuple((k, k + 1) for k in range(count - 1))
            self.assertEqual(closed(count, steps), ("yard", tower(range(count))))
            self.assertEqual(covers(tower(range(count))), steps)

    def test_no_things(self):
        self.assertEqual(closed(0, ()), ("yard", (0, ())))
        self.assertEqual(covers((0, ())), ())

    def test_more_pairs(self):
        dice = Dice(10)
        for size in range(41, 200, 7):
            self.assert_closed(12, told_upwards(dice, 12, size))
            self.assert_closed(12, told_anyhow(dice, 12, size))


class SameAgainTest(unittest.TestCase):
    def test_nothing_is_changed_and_the_same_is_told_again(self):
        dice = Dice(12)
        for _ in range(100):
            count = 1 + dice.below(12)
            pairs = told_anyhow(dice, count, dice.below(30))
            written = repr(pairs)
            first = closed(count, pairs)
            self.assertEqual(repr(pairs), written)
            self.assertEqual(closed(count, pairs), first)
            self.assertEqual(closed(count, tuple(list(pairs))), first)

    def test_covers_too(self):
        for yard in built_yards():
            written = repr(yard)
            first = covers(yard)
            self.assertEqual(repr(yard), written)
            self.assertEqual(covers(yard), first)


if __name__ == "__main__":
    unittest.main()
