import unittest

from lostweights.errors import BadBox, BadLoss, BadNumber, TooMany
from lostweights.pans import both_loads, both_safe, shows_spread, spread
from plain import all_losses, boxes_up_to, every_loss, plain_spreads
from values import ANY_VALUES, error_of

SMALL = boxes_up_to(3, 5) + [(1, 1, 3, 3), (1, 3, 9, 27), (2, 2, 2, 2), (1, 2, 6, 7), (4, 6, 7, 1000), (1, 1, 3, 3, 9)]
SEVEN_TRIPLES = (1, 3, 9, 27, 81, 243, 729)
SEVEN_ONES = (1,) * 7
SEVEN_HEAVY = (1000,) * 7


class ExamplesTest(unittest.TestCase):
    def test_examples_of_the_interface(self):
        found = [both_loads((1, 3), ()), spread((1, 3), (), 2), shows_spread((1, 3, 9), (0,), 6, ((2,), (1,)))]
        found += [both_safe((1, 3, 9), 0), both_safe((1, 1, 3, 3), 1)]
        self.assertEqual(found, [(0, 1, 2, 3, 4), ((1,), (0,)), True, 13, 5])


class SpreadsTest(unittest.TestCase):
    def test_both_loads_against_all_spreads(self):
        for box in SMALL:
            for loss in every_loss(box):
                wanted = tuple(sorted(load for load in plain_spreads(box, loss) if load >= 0))
                self.assertEqual(both_loads(box, loss), wanted, (box, loss))

    def test_spread_is_one_of_all_spreads(self):
        for box in SMALL:
            for loss in every_loss(box):
                wanted = plain_spreads(box, loss)
                for load in range(min(sum(box), 60) + 2):
                    found = spread(box, loss, load)
                    self.assertIn(found, wanted.get(load, [None]), (box, loss, load))
                    self.assertIs(shows_spread(box, loss, load, found), True, (box, loss, load))

    def test_shows_spread_for_each_pair_of_places(self):
        for box in ((1,), (1, 3), (2, 2), (1, 2, 3), (1, 1, 2), (1, 1, 2, 3)):
            lots = [lot for many in range(len(box) + 1) for lot in all_losses(box, many)]
            for loss in every_loss(box):
                wanted = plain_spreads(box, loss)
                for load in range(sum(box) + 2):
                    for value in [(first, second) for first in lots for second in lots]:
                        right = value in wanted.get(load, [])
                        self.assertIs(shows_spread(box, loss, load, value), right, (box, loss, load, value))
                    self.assertIs(shows_spread(box, loss, load, None), load not in wanted, (box, loss, load))

    def test_equal_weights_on_both_pans_are_spreads_too(self):
        for value in (((), ()), ((0,), (1,)), ((1,), (0,))):
            self.assertIs(shows_spread((5, 5), (), 0, value), True, value)
        self.assertIs(shows_spread((1, 1, 2), (), 2, ((0, 2), (1,))), True)

    def test_values_that_are_no_spreads(self):
        box, loss, load = (1, 1, 2, 4), (3,), 2
        self.assertIs(shows_spread(box, loss, load, ((2,), ())), True)
        self.assertIs(shows_spread(box, loss, load, ((0, 1), ())), True)
        for value in (
            ((1, 0), ()), ((0, 0), ()), ((0, 1), (0, 1)), ((0, 2), (0,)), ((3,), (2,)), ((3,), (0, 1)), ((2, 3), (3,)),
            ([2], ()), ((2,), []), [(2,), ()], ((2,),), ((2,), (), ()), ((True,), ()), ((2,), (False,)), ((), (2,)),
            ((2.0,), ()), (2, ()), ((2,), 0), ("2", ""), ((2,), None), (None, None), ((4,), ()), ((-2,), ()), (("2",), ()),
            ((2,), {}), ({2: 0}, ()), (((2,),), ()), ((None,), ()), (([],), ()), (({},), ()), None, (), {(2,): ()},
        ):
            self.assertIs(shows_spread(box, loss, load, value), False, value)
        # True and False are no places, though they are equal to some.
        self.assertIs(shows_spread((1, 1), (), 1, ((True,), ())), False)
        self.assertIs(shows_spread((1, 1), (), 0, ((0,), (True,))), False)

    def test_without_a_spread_none_alone_is_right(self):
        for box, loss, load in (((2, 2), (), 1), ((1,), (0,), 1), ((1, 3), (), 5), (SEVEN_HEAVY, (), 7001), ((7,), (), 10000)):
            self.assertIsNone(spread(box, loss, load))
            for value in ANY_VALUES + (((), ()), ((0,), ()), ((), (0,))):
                self.assertIs(shows_spread(box, loss, load, value), value is None, (box, value))

    def test_any_value_where_there_is_one(self):
        for value in ANY_VALUES + ((), (0, 0), ((0,), 1)):
            self.assertIs(shows_spread((1, 2), (), 3, value), False, value)

    def test_load_0_has_a_spread_behind_any_loss(self):
        for box, loss in (((7,), ()), ((7,), (0,)), (SEVEN_ONES, (3,)), (SEVEN_HEAVY, tuple(range(7)))):
            self.assertIs(shows_spread(box, loss, 0, ((), ())), True)
            self.assertIs(shows_spread(box, loss, 0, None), False)
            self.assertIs(shows_spread(box, loss, 0, spread(box, loss, 0)), True)
        self.assertEqual([both_loads((7,), (0,)), both_loads((1, 2), (0, 1))], [(0,), (0,)])

    def test_one_weight(self):
        self.assertEqual([both_loads((5,), ()), spread((5,), (), 5), spread((5,), (), 4)], [(0, 5), ((0,), ()), None])

    def test_seven_weights(self):
        self.assertEqual(both_loads(SEVEN_TRIPLES, ()), tuple(range(1094)))
        self.assertEqual(spread(SEVEN_TRIPLES, (), 1093), (tuple(range(7)), ()))
        self.assertEqual(spread(SEVEN_TRIPLES, (), 365), ((6,), tuple(range(6))))
        self.assertEqual([spread(SEVEN_TRIPLES, (0,), 1093), spread(SEVEN_TRIPLES, (), 1094)], [None, None])
        self.assertEqual(both_loads(SEVEN_TRIPLES, tuple(range(1, 7))), (0, 1))
        self.assertEqual(both_loads(SEVEN_HEAVY, (2,)), tuple(range(0, 7000, 1000)))
        self.assertEqual(spread(SEVEN_HEAVY, (), 7000), (tuple(range(7)), ()))
        self.assertEqual([spread(SEVEN_HEAVY, (), 6999), spread(SEVEN_HEAVY, (), 10000)], [None, None])


class BothSafeTest(unittest.TestCase):
    def test_against_all_losses_and_spreads(self):
        for box in SMALL:
            for lost in range(len(box) + 1):
                held = [plain_spreads(box, loss) for loss in all_losses(box, lost)]
                wanted = next(load for load in range(sum(box) + 1) if any(load + 1 not in loads for loads in held))
                self.assertEqual(both_safe(box, lost), wanted, (box, lost))

    def test_no_less_than_the_least_of_the_sums_named(self):
        for box in SMALL + [SEVEN_TRIPLES, SEVEN_ONES, (1, 1, 1, 3, 3, 3, 9), (1, 1, 3, 3, 9, 9, 27), (1, 2, 5, 11, 24, 50, 100)]:
            for lost in range(len(box) + 1):
                sums = [sum(box[:j]) for j in range(len(box) + 1)]
                ends = [sums[j] for j in range(len(box) + 1) if j + lost >= len(box) or box[j + lost] > 2 * sums[j] + 1]
                self.assertGreaterEqual(both_safe(box, lost), min(ends), (box, lost))

    def test_seven_weights(self):
        self.assertEqual([both_safe(SEVEN_TRIPLES, lost) for lost in range(8)], [1093] + [0] * 7)
        self.assertEqual([both_safe(SEVEN_ONES, lost) for lost in range(8)], [7, 6, 5, 4, 3, 2, 1, 0])
        self.assertEqual([both_safe(SEVEN_HEAVY, lost) for lost in range(8)], [0] * 8)
        self.assertEqual([both_safe((1, 1, 3, 3, 9, 9, 27), lost) for lost in (0, 7)], [53, 0])

    def test_one_weight(self):
        self.assertEqual([both_safe((1,), 0), both_safe((1,), 1), both_safe((2,), 0)], [1, 0, 0])

    def test_more_than_the_sums_named_tell(self):
        # No weight is 1, but 2 and 3 on both pans weigh it.
        self.assertEqual([both_safe((2, 3), 0), both_safe((2, 3), 1)], [3, 0])


class WrongTest(unittest.TestCase):
    def test_seven_weights_and_one_more(self):
        calls = ((both_loads, ((),)), (spread, ((), 1)), (shows_spread, ((), 1, None)), (both_safe, (1,)))
        for function, rest in calls:
            for box in (SEVEN_ONES, SEVEN_TRIPLES, SEVEN_HEAVY):
                self.assertIsNone(error_of(function, box, *rest), function)
            for many in (8, 9, 10):
                self.assertEqual(error_of(function, (1,) * many, *rest), (TooMany, 7), function)
            self.assertEqual(error_of(function, (1,) * 11, *rest), (BadBox, None), function)
            self.assertEqual(error_of(function, (1,) * 7 + (0,), *rest), (BadBox, 7), function)

    def test_too_many_counts_lost_weights_too(self):
        self.assertEqual(error_of(both_loads, (1,) * 8, tuple(range(8))), (TooMany, 7))
        self.assertEqual(error_of(spread, (1,) * 8, (0, 1), 0), (TooMany, 7))
        self.assertEqual(error_of(both_safe, (1,) * 8, 8), (TooMany, 7))

    def test_too_many_comes_behind_all_others(self):
        box = (1,) * 8
        for loss in ((8,), (1, 0), (True,), [0], None, 0, "0", {}):
            self.assertEqual(error_of(both_loads, box, loss), (BadLoss,), loss)
            self.assertEqual(error_of(spread, box, loss, -1), (BadLoss,), loss)
            self.assertEqual(error_of(shows_spread, box, loss, 1, None), (BadLoss,), loss)
        for load in (-1, 10001, True, None, "1", (1,), [], {}):
            self.assertEqual(error_of(spread, box, (0,), load), (BadNumber,), load)
            self.assertEqual(error_of(shows_spread, box, (0,), load, None), (BadNumber,), load)
        for lost in (-1, 9, True, None, "1", (1,), [], {}):
            self.assertEqual(error_of(both_safe, box, lost), (BadNumber,), lost)

    def test_shows_spread_raises_for_other_arguments_whatever_its_value(self):
        for value in (None, ((), ()), 1, {}):
            self.assertEqual(error_of(shows_spread, (1,) * 8, (), 0, value), (TooMany, 7))
            self.assertEqual(error_of(shows_spread, (1,), (), 10001, value), (BadNumber,))
            self.assertEqual(error_of(shows_spread, (1,), (1,), 0, value), (BadLoss,))


if __name__ == "__main__":
    unittest.main()
