import random
import unittest
from fractions import Fraction
from math import comb, gcd

from lostweights.chances import chance_safe, mean_safe
from plain import boxes_up_to, chance_of_loss, every_loss, plain_reach, rest_of

TEN_ONES = (1,) * 10
TEN_DOUBLES = (1, 2, 4, 8, 16, 32, 64, 128, 256, 512)
TEN_HEAVY = (1000,) * 10
SOME_CHANCES = ((0, 1), (1, 1), (0, 100), (100, 100), (1, 100), (99, 100), (1, 2), (2, 3), (4, 6), (3, 97), (5, 8))


def plain_reaches(box, chances):
    """Over all losses: the reach of those left, and the chance of this very loss."""
    return [(plain_reach(rest_of(box, loss)), chance_of_loss(loss, chances)) for loss in every_loss(box)]


def pair(fraction):
    return fraction.numerator, fraction.denominator


class ExamplesTest(unittest.TestCase):
    def test_examples_of_the_interface(self):
        half = ((1, 2), (1, 2))
        found = [chance_safe((1, 1), half, 1), mean_safe((1, 1), half), chance_safe((1, 2), ((0, 1), (1, 3)), 3)]
        self.assertEqual(found, [(3, 4), (1, 1), (2, 3)])


class AllLossesTest(unittest.TestCase):
    def assert_as_over_all_losses(self, box, chances, loads):
        reaches = plain_reaches(box, chances)
        for load in loads:
            chance = sum((share for reach, share in reaches if reach >= load), Fraction(0))
            self.assertEqual(chance_safe(box, chances, load), pair(chance), (box, chances, load))
        mean = sum((reach * share for reach, share in reaches), Fraction(0))
        self.assertEqual(mean_safe(box, chances), pair(mean), (box, chances))

    def test_small_boxes(self):
        picked = random.Random(5)
        for box in boxes_up_to(4, 5) + [(1, 1, 2, 3, 5), (1, 1, 1, 2, 4, 8), (1, 2, 3, 7, 7, 1000)]:
            for _ in range(3):
                chances = tuple(picked.choice(SOME_CHANCES) for _ in box)
                self.assert_as_over_all_losses(box, chances, range(min(sum(box), 30) + 2))

    def test_ten_weights(self):
        picked = random.Random(6)
        for box in (TEN_ONES, TEN_DOUBLES, (1, 1, 2, 3, 5, 8, 13, 21, 34, 55)):
            chances = tuple(picked.choice(SOME_CHANCES[4:]) for _ in box)
            self.assert_as_over_all_losses(box, chances, (0, 1, 2, 7, 10, 31, sum(box), sum(box) + 1))


class EdgesTest(unittest.TestCase):
    def test_chances_0_and_1(self):
        for never, ever in (((0, 1), (1, 1)), ((0, 100), (100, 100))):
            self.assertEqual([mean_safe((1,), (never,)), mean_safe((1,), (ever,))], [(1, 1), (0, 1)])
            self.assertEqual(chance_safe((1, 2), (ever, never), 1), (0, 1))
            self.assertEqual(chance_safe((1, 2), (never, ever), 1), (1, 1))
            self.assertEqual(chance_safe((1, 2), (never, ever), 2), (0, 1))
            self.assertEqual([mean_safe((1, 2, 4), (never,) * 3), mean_safe((1, 2, 4), (ever,) * 3)], [(7, 1), (0, 1)])

    def test_bottoms_1_and_100(self):
        self.assertEqual([mean_safe((1,), ((1, 100),)), mean_safe((1,), ((99, 100),))], [(99, 100), (1, 100)])
        self.assertEqual(chance_safe(TEN_ONES, ((1, 100),) * 10, 10), (99 ** 10, 100 ** 10))
        self.assertEqual(chance_safe(TEN_ONES, ((1, 100),) * 10, 1), (100 ** 10 - 1, 100 ** 10))
        nine_at_least = 99 ** 10 + 10 * 99 ** 9
        self.assertEqual(chance_safe(TEN_ONES, ((1, 100),) * 10, 9), pair(Fraction(nine_at_least, 100 ** 10)))

    def test_halves_of_ten_ones(self):
        half = ((1, 2),) * 10
        for load in range(12):
            many = sum(comb(10, left) for left in range(load, 11))
            self.assertEqual(chance_safe(TEN_ONES, half, load), pair(Fraction(many, 1024)))
        self.assertEqual(mean_safe(TEN_ONES, half), (5, 1))

    def test_load_0_is_always_safe(self):
        for box in ((1,), (1000,), TEN_ONES, TEN_HEAVY):
            for chance in SOME_CHANCES:
                self.assertEqual(chance_safe(box, (chance,) * len(box), 0), (1, 1))

    def test_loads_above_the_sum(self):
        never = ((0, 1),) * 10
        self.assertEqual([chance_safe(TEN_DOUBLES, never, load) for load in (1023, 1024, 10000)], [(1, 1), (0, 1), (0, 1)])
        self.assertEqual([chance_safe((1,), ((0, 1),), load) for load in (1, 2, 10000)], [(1, 1), (0, 1), (0, 1)])
        self.assertEqual([chance_safe(TEN_HEAVY, never, 10000), mean_safe(TEN_HEAVY, never)], [(0, 1), (0, 1)])
        self.assertEqual(mean_safe(TEN_DOUBLES, never), (1023, 1))

    def test_lowest_terms(self):
        for chances in (((2, 4),), ((50, 100),), ((1, 2),)):
            self.assertEqual([chance_safe((1,), chances, 1), mean_safe((1,), chances)], [(1, 2), (1, 2)])
        picked = random.Random(9)
        for _ in range(100):
            chances = tuple((picked.randint(0, bottom), bottom) for bottom in (picked.randint(1, 100) for _ in range(4)))
            for found in (chance_safe((1, 1, 2, 4), chances, picked.randint(0, 9)), mean_safe((1, 1, 2, 4), chances)):
                top, bottom = found
                self.assertIs(type(found), tuple)
                self.assertTrue(bottom > 0 and gcd(top, bottom) == 1, found)


if __name__ == "__main__":
    unittest.main()
