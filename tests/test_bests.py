import random
import unittest

from lostweights.bests import best_box, best_safe, cheapest, count_safe, fewest_weights, shows_cheapest
from plain import boxes_of, boxes_up_to, plain_cheapest_price, plain_safe
from values import ANY_VALUES


class ExamplesTest(unittest.TestCase):
    def test_examples_of_the_interface(self):
        found = [best_box(7, 1), best_box(7, 2), best_safe(7, 1), fewest_weights(1, 12), count_safe(3, 1, 2, 4)]
        found += [cheapest((1, 3), 1, 2), shows_cheapest((1, 3), 1, 2, (5, (1, 1, 2)))]
        boxes = [(1, 1, 2, 3, 5, 8, 13), (1, 1, 1, 2, 3, 4, 6)]
        self.assertEqual(found, [*boxes, 20, 6, 2, (3, (1, 1, 1)), False])


class BestBoxTest(unittest.TestCase):
    def test_no_small_box_is_safer(self):
        for many, top in ((1, 4), (2, 5), (3, 9), (4, 17)):
            for lost in range(many + 1):
                most = max(plain_safe(box, lost) for box in boxes_of(many, top))
                self.assertEqual(best_safe(many, lost), most, (many, lost))

    def test_no_box_of_five_weights_is_safer_behind_a_loss(self):
        for lost in range(1, 6):
            most = max(plain_safe(box, lost) for box in boxes_of(5, 8))
            self.assertEqual(best_safe(5, lost), most, lost)

    def test_the_box_has_this_safe_load_and_form(self):
        for many in range(1, 11):
            for lost in range(many + 1):
                box = best_box(many, lost)
                self.assertEqual(len(box), many)
                self.assertEqual(plain_safe(box, lost), best_safe(many, lost), (many, lost))
                for place in range(many):
                    before = sum(box[other] for other in range(many) if place - other > lost)
                    self.assertEqual(box[place], 1 if place <= lost else before + 1, (many, lost, place))

    def test_no_lost_weights_and_all_of_them(self):
        self.assertEqual([best_box(1, 0), best_box(1, 1), best_safe(1, 0), best_safe(1, 1)], [(1,), (1,), 1, 0])
        self.assertEqual([best_safe(10, 0), best_safe(10, 9), best_safe(10, 10)], [1023, 1, 0])
        self.assertEqual(best_box(10, 0), (1, 2, 4, 8, 16, 32, 64, 128, 256, 512))
        self.assertEqual([best_box(10, 9), best_box(10, 10)], [(1,) * 10, (1,) * 10])


class FewestWeightsTest(unittest.TestCase):
    def test_against_best_safe(self):
        for lost in range(11):
            for load in [*range(1, 150), 511, 512, 513, 1022, 1023, 1024]:
                numbers = [many for many in range(max(1, lost), 11) if best_safe(many, lost) >= load]
                self.assertEqual(fewest_weights(lost, load), min(numbers, default=None), (lost, load))

    def test_ten_may_not_be_enough(self):
        self.assertEqual([fewest_weights(0, 1023), fewest_weights(0, 1024)], [10, None])
        self.assertEqual([fewest_weights(9, 1), fewest_weights(9, 2), fewest_weights(10, 1)], [10, None, None])

    def test_load_1_takes_one_more_than_are_lost(self):
        self.assertEqual([fewest_weights(lost, 1) for lost in range(10)], list(range(1, 11)))
        self.assertEqual([fewest_weights(0, load) for load in (1, 2, 3, 4, 7, 8)], [1, 2, 2, 3, 3, 4])


class CountSafeTest(unittest.TestCase):
    def test_against_all_boxes(self):
        for many, top in ((1, 8), (2, 8), (3, 5), (4, 4), (5, 3), (6, 2)):
            for lost in range(many + 1):
                for load in range(13):
                    count = len([box for box in boxes_of(many, top) if plain_safe(box, lost) >= load])
                    self.assertEqual(count_safe(many, lost, load, top), count, (many, lost, load, top))

    def test_load_0_counts_all_boxes(self):
        self.assertEqual([count_safe(1, 1, 0, 1), count_safe(6, 0, 0, 8), count_safe(6, 6, 0, 8)], [1, 1716, 1716])

    def test_greatest_numbers(self):
        self.assertEqual([count_safe(6, 0, 60, 8), count_safe(6, 6, 1, 8), count_safe(6, 5, 1, 8)], [0, 0, 1])
        # (1, 2, 4, 8, 8, 8) is the only one that reaches 31.
        self.assertEqual([count_safe(6, 0, 31, 8), count_safe(6, 0, 32, 8)], [1, 0])


class CheapestTest(unittest.TestCase):
    def assert_cheapest(self, prices, lost, load, least):
        found = cheapest(prices, lost, load)
        if least is None:
            self.assertIsNone(found, (prices, lost, load))
        else:
            price, box = found
            self.assertEqual(price, least, (prices, lost, load))
            self.assertEqual(sum(prices[weight - 1] for weight in box), least)
            self.assertTrue(lost <= len(box) <= 10 and list(box) == sorted(box))
            self.assertGreaterEqual(plain_safe(box, lost), load)
        self.assertIs(shows_cheapest(prices, lost, load, found), True)

    def test_against_all_boxes_of_light_weights(self):
        picked = random.Random(7)
        for top in (1, 2, 3, 4):
            for _ in range(25):
                prices = tuple(picked.choice((0, 1, 2, 3, 5, 9, 40, 99)) for _ in range(top))
                lost, load = picked.randint(0, 4), picked.randint(1, picked.choice((4, 12, 30)))
                self.assert_cheapest(prices, lost, load, plain_cheapest_price(prices, lost, load, 10))

    def test_against_all_boxes_of_few_weights(self):
        picked = random.Random(8)
        for lost, load in ((0, 7), (0, 11), (1, 6), (2, 3), (3, 2)):
            for _ in range(6):
                # Each weight costs 20 to 23, so a sixth one is never worth its price.
                prices = tuple(picked.randint(20, 23) for _ in range(7))
                self.assert_cheapest(prices, lost, load, plain_cheapest_price(prices, lost, load, 5))

    def test_boxes_of_one_sum_that_differ_in_their_last_weights_alone(self):
        self.assert_cheapest((0, 2, 3, 1), 4, 7, plain_cheapest_price((0, 2, 3, 1), 4, 7, 10))
        # These two prices are those found among all boxes of ten weights at most.
        self.assert_cheapest((81, 90, 93, 63, 39, 9, 91), 2, 19, 522)
        self.assert_cheapest((61, 67, 70, 34, 96, 34, 8, 52, 6), 3, 11, 460)

    def test_dear_ones_are_left_out(self):
        self.assertEqual(cheapest((1, 99), 0, 10), (10, (1,) * 10))
        self.assertEqual(cheapest((50, 1), 0, 7), (53, (1, 2, 2, 2)))
        self.assertEqual(cheapest((9, 1, 1, 99), 0, 4), (11, (1, 2, 2)))
        self.assertEqual(cheapest((9, 1, 0, 99), 0, 4), (10, (1, 2, 3)))

    def test_one_price_and_twelve(self):
        self.assertEqual([cheapest((99,), 0, 10), cheapest((99,), 0, 11)], [(990, (1,) * 10), None])
        self.assertEqual([cheapest((3,), 4, 6), cheapest((3,), 4, 7)], [(30, (1,) * 10), None])
        self.assertEqual(cheapest((0,) * 12, 0, 60)[0], 0)
        self.assertEqual(cheapest((1,) * 12, 0, 60)[0], 8)
        self.assertEqual(cheapest((99,) * 12, 0, 60)[0], 792)
        self.assertEqual(cheapest(tuple(range(12)), 4, 1), (0, (1,) * 5))

    def test_none_is_an_answer(self):
        self.assertIsNone(cheapest((1,) * 12, 4, 60))
        self.assertIs(shows_cheapest((1,) * 12, 4, 60, None), True)
        for value in ANY_VALUES + ((10, (1,) * 10), (0, ())):
            self.assertIs(shows_cheapest((1,), 0, 11, value), value is None, value)

    def test_every_box_is_shown_right(self):
        for prices, lost, load in (((1, 3), 1, 2), ((2, 2, 3), 0, 5), ((0, 1, 1), 1, 3), ((1, 0), 2, 1)):
            least = plain_cheapest_price(prices, lost, load, 10)
            for box in boxes_up_to(6, 3):
                price = sum(prices[weight - 1] if weight <= len(prices) else 0 for weight in box)
                fits = len(box) >= lost and box[-1] <= len(prices) and price == least
                right = fits and plain_safe(box, lost) >= load
                self.assertIs(shows_cheapest(prices, lost, load, (price, box)), right, (prices, lost, load, box))
                self.assertIs(shows_cheapest(prices, lost, load, (price + 1, box)), False)
                self.assertIs(shows_cheapest(prices, lost, load, (least, box)), right)

    def test_values_that_are_no_such_answer(self):
        for value in ANY_VALUES:
            self.assertIs(shows_cheapest((1, 3), 1, 2, value), False, value)
            self.assertIs(shows_cheapest((1, 3), 1, 2, (value, (1, 1, 1))), False, value)
            self.assertIs(shows_cheapest((1, 3), 1, 2, (3, value)), False, value)
        values = [(3, (1, 1, 1)), [3, (1, 1, 1)], (3, [1, 1, 1]), ((1, 1, 1), 3), (3, (1, 1, 1), 3), (3, (1, 1, True))]
        self.assertEqual([shows_cheapest((1, 3), 1, 2, value) for value in values], [True] + [False] * 5)
        values = [(1, (1,)), (True, (1,)), (1, (True,)), (1, (2,)), (1, (0,)), (0, (1,)), (1, (1, 1))]
        self.assertEqual([shows_cheapest((1, 1), 0, 1, value) for value in values], [True] + [False] * 6)
        values = [(0, (1,)), (False, (1,)), (0, (1,) * 10), (0, (1,) * 11), (0, ()), (0, (2,)), (0, (1, 13)), (0, (1, 12))]
        found = [shows_cheapest((0,) * 12, 0, 1, value) for value in values]
        self.assertEqual(found, [True, False, True, False, False, False, False, True])


if __name__ == "__main__":
    unittest.main()
