import unittest

from lostweights.losses import flaw, left, loads, shows_flaw, sure_loads, weigh
from plain import all_losses, all_sums, boxes_up_to, every_loss, plain_safe, rest_of, sums_of_all_losses
from values import ANY_VALUES

SMALL = boxes_up_to(4, 6) + [(1, 1, 2, 3, 5), (1, 1, 1, 2, 3, 4), (2, 3, 3, 8, 1000)]
TEN_ONES = (1,) * 10
TEN_DOUBLES = (1, 2, 4, 8, 16, 32, 64, 128, 256, 512)
TEN_HEAVY = (1000,) * 10
ALL_TEN = tuple(range(10))


class ExamplesTest(unittest.TestCase):
    def test_examples_of_the_interface(self):
        box = (1, 1, 4, 4)
        found = [left(box, (0, 2)), loads(box, (0,)), sure_loads(box, 1), weigh((1, 1, 2, 3, 5, 8), (5,), 11)]
        found += [weigh(box, (0,), 2), flaw(box, 0), shows_flaw(box, 1, ((1,), 2)), shows_flaw(box, 1, flaw(box, 1))]
        self.assertEqual(found, [(1, 4), (0, 1, 4, 5, 8, 9), (0, 1, 4, 5), (5, 3, 2, 1), None, ((), 3), True, True])


class LoadsTest(unittest.TestCase):
    def test_left_and_loads_against_all_sums(self):
        for box in SMALL:
            for loss in every_loss(box):
                rest = rest_of(box, loss)
                self.assertEqual(left(box, loss), rest, (box, loss))
                self.assertEqual(loads(box, loss), tuple(sorted(all_sums(rest))), (box, loss))

    def test_sure_loads_against_all_losses(self):
        for box in SMALL:
            for lost in range(len(box) + 1):
                sure = frozenset.intersection(*sums_of_all_losses(box, lost))
                self.assertEqual(sure_loads(box, lost), tuple(sorted(sure)), (box, lost))

    def test_no_lost_weights_and_all_of_them(self):
        self.assertEqual([left((1000,), ()), left((1000,), (0,))], [(1000,), ()])
        self.assertEqual([loads((1000,), ()), loads((1000,), (0,))], [(0, 1000), (0,)])
        self.assertEqual([sure_loads((1000,), 0), sure_loads((1000,), 1)], [(0, 1000), (0,)])

    def test_ten_weights(self):
        self.assertEqual([left(TEN_DOUBLES, ALL_TEN), loads(TEN_DOUBLES, ALL_TEN)], [(), (0,)])
        self.assertEqual(loads(TEN_DOUBLES, ()), tuple(range(1024)))
        self.assertEqual(loads(TEN_HEAVY, (3, 9)), tuple(range(0, 8001, 1000)))
        self.assertEqual(sure_loads(TEN_HEAVY, 5), (0, 1000, 2000, 3000, 4000, 5000))
        self.assertEqual([sure_loads(TEN_DOUBLES, 1), sure_loads(TEN_DOUBLES, 10)], [(0,), (0,)])


def plain_weigh(weights, load):
    """The rule in its words: the heaviest one not taken yet that still fits, again and again."""
    there, taken = list(weights), []
    while [weight for weight in there if weight <= load]:
        heaviest = max(weight for weight in there if weight <= load)
        there.remove(heaviest)
        taken.append(heaviest)
        load -= heaviest
    return None if load else tuple(taken)


class WeighTest(unittest.TestCase):
    def test_each_load_up_to_safe_is_weighed(self):
        for box in SMALL:
            for loss in every_loss(box):
                for load in range(plain_safe(box, len(loss)) + 1):
                    self.assertIsNotNone(weigh(box, loss, load), (box, loss, load))

    def test_the_heaviest_that_fits_again_and_again(self):
        for box in boxes_up_to(4, 5) + [(1, 1, 2, 3, 5), (2, 3, 3, 8, 12)]:
            for loss in every_loss(box):
                for load in range(sum(box) + 1):
                    self.assertEqual(weigh(box, loss, load), plain_weigh(rest_of(box, loss), load), (box, loss, load))

    def test_none_though_others_would_weigh_it(self):
        self.assertEqual([weigh((3, 3, 4), (), 6), weigh((3, 3, 4), (2,), 6)], [None, (3, 3)])

    def test_load_0_and_the_greatest_one(self):
        self.assertEqual([weigh((5,), (0,), 0), weigh((5,), (), 0), weigh((5,), (), 5)], [(), (), (5,)])
        self.assertEqual([weigh((5,), (0,), 5), weigh((5, 6), (0,), 11)], [None, None])
        self.assertEqual(weigh(TEN_HEAVY, (), 10000), TEN_HEAVY)
        self.assertEqual(weigh(TEN_DOUBLES, (), 1023), TEN_DOUBLES[::-1])


class FlawTest(unittest.TestCase):
    def test_the_least_load_that_any_such_loss_leaves_unweighed(self):
        for box in SMALL + [TEN_ONES, TEN_HEAVY]:
            for lost in range(len(box) + 1):
                loss, load = found = flaw(box, lost)
                self.assertIs(type(found), tuple)
                self.assertIn(loss, all_losses(box, lost), (box, lost))
                self.assertEqual(load, plain_safe(box, lost) + 1, (box, lost))
                self.assertNotIn(load, all_sums(rest_of(box, loss)), (box, lost))
                self.assertIs(shows_flaw(box, lost, found), True)

    def test_no_lost_weights_and_all_of_them(self):
        self.assertEqual([flaw((1,), 0), flaw((1,), 1), flaw((1000,), 0)], [((), 2), ((0,), 1), ((), 1)])
        self.assertEqual([flaw(TEN_DOUBLES, 0), flaw(TEN_DOUBLES, 10)], [((), 1024), (ALL_TEN, 1)])

    def test_every_loss_and_load_is_shown_right(self):
        for box in boxes_up_to(4, 4):
            for lost in range(len(box) + 1):
                least = plain_safe(box, lost) + 1
                for loss in every_loss(box):
                    for load in range(-1, sum(box) + 3):
                        right = len(loss) == lost and load == least and load not in all_sums(rest_of(box, loss))
                        self.assertIs(shows_flaw(box, lost, (loss, load)), right, (box, lost, loss, load))

    def test_several_losses_may_do(self):
        self.assertEqual([shows_flaw((1, 1, 4, 4), 1, ((place,), 2)) for place in range(4)], [True, True, False, False])

    def test_values_that_are_no_such_answer(self):
        for value in ANY_VALUES:
            self.assertIs(shows_flaw((1, 1, 4, 4), 1, value), False, value)
            right = value in ((0,), (1,)) and type(value[0]) is int
            self.assertIs(shows_flaw((1, 1, 4, 4), 1, (value, 2)), right, value)
            self.assertIs(shows_flaw((5,), 0, ((), value)), value == 1 and value is not True, value)
        for value in (((1,), 2, 2), [(1,), 2], ([1], 2), ((1,),), (2, (1,)), ((True,), 2), ((4,), 2), ((-1,), 2)):
            self.assertIs(shows_flaw((1, 1, 4, 4), 1, value), False, value)
        for loss in ((1, 1), (1, 0), (0,), (0, 1, 2), [0, 1], (0, 4), (False, 1)):
            self.assertIs(shows_flaw((1, 1, 4, 4), 2, (loss, 1)), False, loss)
        self.assertIs(shows_flaw((1, 1, 4, 4), 2, ((0, 1), 1)), True)
        self.assertIs(shows_flaw((1, 1, 4, 4), 2, ((0, 1), True)), False)


if __name__ == "__main__":
    unittest.main()
