import random
import unittest
from fractions import Fraction
from itertools import combinations
from math import gcd

from lostweights.chances import chance_safe
from lostweights.days import chance_after, mean_days
from lostweights.errors import BadBox, BadChances, BadNumber, TooMany
from plain import boxes_up_to, chance_of_loss, plain_reach
from values import error_of

SOME_CHANCES = ((0, 1), (1, 1), (0, 100), (100, 100), (1, 100), (99, 100), (1, 2), (2, 3), (4, 6), (3, 97), (5, 8))
NEVER, EVER, HALF = (0, 1), (1, 1), (1, 2)
TEN_ONES = (1,) * 10
TEN_DOUBLES = (1, 2, 4, 8, 16, 32, 64, 128, 256, 512)
TEN_HEAVY = (1000,) * 10
SIX_ONES = (1,) * 6


def pair(fraction):
    return fraction.numerator, fraction.denominator


def next_lefts(left, chances):
    """One day for the places left: (places left behind it, chance of just these)."""
    day = tuple(chances[place] for place in left)
    losses = [loss for many in range(len(left) + 1) for loss in combinations(range(len(left)), many)]
    found = [(tuple(one for at, one in enumerate(left) if at not in loss), chance_of_loss(loss, day)) for loss in losses]
    return [(behind, chance) for behind, chance in found if chance > 0]


def days_one_by_one(box, chances, days):
    """For day 0, 1 and so on: the chance of each tuple of places left, one day being done behind the other."""
    found = [{tuple(range(len(box))): Fraction(1)}]
    for _ in range(days):
        behind = {}
        for left, chance in found[-1].items():
            for rest, share in next_lefts(left, chances):
                behind[rest] = behind.get(rest, 0) + chance * share
        found.append(behind)
    return found


def is_safe(box, left, load):
    return plain_reach(tuple(box[place] for place in left)) >= load


def plain_mean(box, chances, load, left):
    """The mean number of days to come behind which the load is safe, from the places left on; None without end."""
    whole, staying = Fraction(0), Fraction(0)
    for rest, chance in next_lefts(left, chances):
        good = 1 if is_safe(box, rest, load) else 0
        if rest == left:
            staying = chance
            whole += chance * good
        else:
            further = plain_mean(box, chances, load, rest)
            if further is None:
                return None
            whole += chance * (good + further)
    if staying < 1:
        return whole / (1 - staying)
    return None if whole > 0 else Fraction(0)


class ExamplesTest(unittest.TestCase):
    def test_examples_of_the_interface(self):
        half = ((1, 2), (1, 2))
        found = [chance_after((1, 1), half, 1, 1), chance_after((1, 1), half, 2, 1)]
        found += [mean_days((1,), ((1, 2),), 1), mean_days((1, 1), half, 1), mean_days((1, 1), half, 0)]
        self.assertEqual(found, [(3, 4), (7, 16), (1, 1), (5, 3), None])


class ChanceAfterTest(unittest.TestCase):
    def assert_as_day_by_day(self, box, chances, days, loads):
        for day, lefts in enumerate(days_one_by_one(box, chances, days)):
            for load in loads:
                wanted = sum((chance for left, chance in lefts.items() if is_safe(box, left, load)), Fraction(0))
                self.assertEqual(chance_after(box, chances, day, load), pair(wanted), (box, chances, day, load))

    def test_small_boxes_day_by_day(self):
        picked = random.Random(11)
        for box in boxes_up_to(3, 4) + [(1, 1, 2, 2), (1, 2, 3, 7), (1, 1, 2, 4, 8)]:
            for _ in range(2):
                chances = tuple(picked.choice(SOME_CHANCES) for _ in box)
                self.assert_as_day_by_day(box, chances, 4, range(sum(box) + 2))

    def test_thirty_days_one_by_one(self):
        self.assert_as_day_by_day((1, 1, 2), ((1, 100), (3, 97), (5, 8)), 30, (0, 1, 2, 4, 5))
        self.assert_as_day_by_day((1, 2), ((99, 100), (0, 1)), 30, (0, 1, 2, 3))

    def test_one_day_is_as_chance_safe(self):
        picked = random.Random(12)
        for box in (TEN_ONES, TEN_DOUBLES, TEN_HEAVY, (1, 1, 2, 3, 5, 8, 13, 21, 34, 55)):
            chances = tuple(picked.choice(SOME_CHANCES[4:]) for _ in box)
            for load in (0, 1, 2, 9, 12, 1023, 10000):
                self.assertEqual(chance_after(box, chances, 1, load), chance_safe(box, chances, load), (box, load))

    def test_no_day_leaves_the_whole_box(self):
        for chance in SOME_CHANCES:
            self.assertEqual([chance_after((1, 2), (chance,) * 2, 0, load) for load in (3, 4)], [(1, 1), (0, 1)])
            self.assertEqual(chance_after(TEN_DOUBLES, (chance,) * 10, 0, 1023), (1, 1))
            self.assertEqual(chance_after(TEN_HEAVY, (chance,) * 10, 0, 1), (0, 1))

    def test_chances_0_and_1(self):
        for days in (1, 2, 29, 30):
            self.assertEqual(chance_after((1, 2), (NEVER, EVER), days, 1), (1, 1))
            self.assertEqual(chance_after((1, 2), (NEVER, EVER), days, 2), (0, 1))
            self.assertEqual(chance_after((1, 2), (EVER, NEVER), days, 1), (0, 1))
            self.assertEqual(chance_after(TEN_DOUBLES, (NEVER,) * 10, days, 1023), (1, 1))
            self.assertEqual(chance_after(TEN_DOUBLES, ((100, 100),) * 10, days, 1), (0, 1))

    def test_the_loads_at_the_limits(self):
        for days in (0, 1, 30):
            self.assertEqual(chance_after((1,), (EVER,), days, 0), (1, 1))
            self.assertEqual(chance_after(TEN_ONES, (HALF,) * 10, days, 0), (1, 1))
            self.assertEqual(chance_after(TEN_HEAVY, (NEVER,) * 10, days, 10000), (0, 1))
            self.assertEqual(chance_after((1,), (NEVER,), days, 2), (0, 1))

    def test_thirty_days_of_ten_weights(self):
        all_left = Fraction(99, 100) ** 300
        self.assertEqual(chance_after(TEN_ONES, ((1, 100),) * 10, 30, 10), pair(all_left))
        lost = 1 - Fraction(1, 100) ** 30
        self.assertEqual(chance_after(TEN_ONES, ((99, 100),) * 10, 30, 1), pair(1 - lost ** 10))
        self.assertEqual(chance_after((1,), (HALF,), 30, 1), (1, 2 ** 30))


class MeanDaysTest(unittest.TestCase):
    def assert_as_over_all_lefts(self, box, chances, loads):
        for load in loads:
            wanted = plain_mean(box, chances, load, tuple(range(len(box))))
            found = mean_days(box, chances, load)
            self.assertEqual(found, None if wanted is None else pair(wanted), (box, chances, load))

    def test_small_boxes_over_all_places_left(self):
        picked = random.Random(13)
        for box in boxes_up_to(3, 4) + [(1, 1, 2, 2), (1, 2, 3, 7), (1, 1, 1, 2)]:
            for _ in range(4):
                chances = tuple(picked.choice(SOME_CHANCES) for _ in box)
                self.assert_as_over_all_lefts(box, chances, range(sum(box) + 2))

    def test_five_and_six_weights(self):
        self.assert_as_over_all_lefts((1, 1, 2, 4, 8), (HALF, (3, 97), (1, 100), NEVER, (5, 8)), (0, 1, 2, 8, 16))
        self.assert_as_over_all_lefts((1, 1, 2, 3, 5, 8), (HALF, (2, 3), NEVER, HALF, EVER, (9, 10)), (1, 4, 12))

    def test_it_is_the_sum_of_the_chances_of_all_days(self):
        picked = random.Random(14)
        for box in ((1, 1, 2), (1, 2, 4, 8), (1, 1, 1, 3, 5, 9)):
            chances = tuple(picked.choice(((1, 2), (2, 3), (5, 8), (99, 100))) for _ in box)
            for load in (1, 2, 4):
                some = sum(Fraction(*chance_after(box, chances, day, load)) for day in range(1, 31))
                rest = Fraction(*mean_days(box, chances, load)) - some
                # A power of a daily chance of staying, at most 1 / 2, is left for each of 6 weights.
                self.assertTrue(0 <= rest <= Fraction(len(box), 2 ** 30), (box, load, rest))

    def test_one_weight_stays_by_a_series(self):
        for top, bottom in ((1, 2), (1, 3), (1, 100), (99, 100), (4, 6), (100, 100), (1, 1)):
            self.assertEqual(mean_days((1,), ((top, bottom),), 1), pair(Fraction(bottom - top, top)))
            self.assertEqual(mean_days((1,), ((top, bottom),), 2), (0, 1))

    def test_without_end(self):
        for box in ((1,), (1000,), (1, 1), SIX_ONES, (1000,) * 6):
            for chance in SOME_CHANCES:
                self.assertIsNone(mean_days(box, (chance,) * len(box), 0))
        self.assertIsNone(mean_days((1,), (NEVER,), 1))
        self.assertIsNone(mean_days((1,), ((0, 100),), 1))
        self.assertIsNone(mean_days((1, 1), (HALF, NEVER), 1))
        self.assertIsNone(mean_days((1, 1, 2), (EVER, (0, 7), (0, 100)), 3))
        self.assertIsNone(mean_days((1, 2, 4, 8, 16, 32), ((0, 1), (0, 9)) * 3, 63))

    def test_weights_that_never_get_lost_and_are_not_enough(self):
        self.assertEqual(mean_days((1, 1), (HALF, NEVER), 2), (1, 1))
        self.assertEqual(mean_days((1, 2), (HALF, NEVER), 1), (1, 1))
        self.assertEqual(mean_days((1, 2), (HALF, NEVER), 3), (1, 1))
        self.assertEqual(mean_days((1, 2), (NEVER, (1, 3)), 2), (2, 1))
        self.assertEqual(mean_days((2, 3), (NEVER, NEVER), 1), (0, 1))

    def test_never_safe_behind_the_first_day(self):
        self.assertEqual(mean_days(SIX_ONES, (EVER,) * 6, 1), (0, 1))
        self.assertEqual(mean_days((1, 1), (EVER, HALF), 2), (0, 1))
        self.assertEqual([mean_days((1,), (HALF,), load) for load in (2, 10000)], [(0, 1), (0, 1)])
        self.assertEqual(mean_days((1000,) * 6, (NEVER,) * 6, 10000), (0, 1))

    def test_six_ones_that_stay_all(self):
        for top in (1, 50, 99):
            staying = Fraction(100 - top, 100) ** 6
            self.assertEqual(mean_days(SIX_ONES, ((top, 100),) * 6, 6), pair(staying / (1 - staying)))

    def test_lowest_terms(self):
        picked = random.Random(15)
        for _ in range(60):
            chances = tuple((picked.randint(1, bottom), bottom) for bottom in (picked.randint(1, 100) for _ in range(6)))
            load = picked.randint(1, 12)
            for found in (mean_days((1, 1, 2, 3, 5, 8), chances, load), chance_after((1, 1, 2, 3, 5, 8), chances, 7, load)):
                top, bottom = found
                self.assertIs(type(found), tuple)
                self.assertTrue(bottom > 0 and gcd(top, bottom) == 1, found)


class WrongTest(unittest.TestCase):
    def test_six_weights_and_one_more(self):
        for box in ((1,) * 6, (1000,) * 6, (1, 2, 4, 8, 16, 32)):
            self.assertIsNone(error_of(mean_days, box, (HALF,) * 6, 1))
        for many in (7, 8, 10):
            for load in (0, 1, 10000):
                self.assertEqual(error_of(mean_days, (1,) * many, (NEVER,) * many, load), (TooMany, 6))
            self.assertIsNone(error_of(chance_after, (1,) * many, (HALF,) * many, 30, 1))

    def test_too_many_comes_behind_all_others(self):
        self.assertEqual(error_of(mean_days, (1,) * 11, (HALF,) * 11, 1), (BadBox, None))
        self.assertEqual(error_of(mean_days, (1,) * 6 + (0,), (HALF,) * 7, 1), (BadBox, 6))
        self.assertEqual(error_of(mean_days, (1,) * 7, (HALF,) * 6, 1), (BadChances,))
        self.assertEqual(error_of(mean_days, (1,) * 7, (HALF,) * 6 + ((2, 1),), -1), (BadChances,))
        for load in (-1, 10001, True, None, "1", (1,)):
            self.assertEqual(error_of(mean_days, (1,) * 7, (HALF,) * 7, load), (BadNumber,))


if __name__ == "__main__":
    unittest.main()
