import unittest

from lostweights.boxes import safe
from lostweights.ways import breaking, least_ways, lots, shortest_lot, strength, ways
from plain import all_losses, all_sums, boxes_up_to, every_loss, plain_lots, plain_safe, rest_of

SMALL = boxes_up_to(3, 5) + [(1, 1, 2, 2), (1, 2, 3, 4), (1, 1, 2, 3, 5), (2, 3, 5, 7, 8), (3, 3, 4), (1, 1, 1, 1, 1, 2)]
TEN_ONES = (1,) * 10
TEN_DOUBLES = (1, 2, 4, 8, 16, 32, 64, 128, 256, 512)
TEN_HEAVY = (1000,) * 10
ALL_TEN = tuple(range(10))


class ExamplesTest(unittest.TestCase):
    def test_examples_of_lots(self):
        box = (1, 1, 2)
        found = [lots(box, (), 2), ways(box, (0,), 2), shortest_lot(box, (), 2), least_ways(box, 1, 2)]
        self.assertEqual(found, [((0, 1), (2,)), 1, (2,), 1])

    def test_examples_of_strength(self):
        found = [strength((1, 1, 2), 2), breaking((1, 1, 2), 2), strength((1, 3), 2), breaking((1, 3), 2)]
        self.assertEqual(found + [strength((1, 3), 0)], [2, (0, 2), 0, (), None])


class LotsTest(unittest.TestCase):
    def test_against_all_subsets_of_the_places_left(self):
        for box in SMALL:
            for loss in every_loss(box):
                for load in range(sum(box) + 1):
                    wanted = plain_lots(box, loss, load)
                    self.assertEqual(lots(box, loss, load), wanted, (box, loss, load))
                    self.assertEqual(ways(box, loss, load), len(wanted), (box, loss, load))
                    fewest = min((len(lot) for lot in wanted), default=None)
                    shortest = min((lot for lot in wanted if len(lot) == fewest), default=None)
                    self.assertEqual(shortest_lot(box, loss, load), shortest, (box, loss, load))

    def test_least_ways_against_all_losses(self):
        for box in SMALL:
            for lost in range(len(box) + 1):
                for load in range(sum(box) + 1):
                    wanted = min(len(plain_lots(box, loss, load)) for loss in all_losses(box, lost))
                    self.assertEqual(least_ways(box, lost, load), wanted, (box, lost, load))

    def test_load_0_has_the_empty_lot(self):
        for box, loss in (((7,), ()), ((7,), (0,)), (TEN_ONES, (3,)), (TEN_HEAVY, ALL_TEN)):
            self.assertEqual([lots(box, loss, 0), ways(box, loss, 0), shortest_lot(box, loss, 0)], [((),), 1, ()])
            self.assertEqual([least_ways(box, lost, 0) for lost in (0, len(box))], [1, 1])

    def test_a_load_without_any_lot(self):
        for box, loss, load in (((7,), (), 3), ((7,), (0,), 7), ((1, 3), (), 2), (TEN_HEAVY, (4,), 10000)):
            self.assertEqual([lots(box, loss, load), ways(box, loss, load), shortest_lot(box, loss, load)], [(), 0, None])

    def test_the_sum_of_the_box(self):
        self.assertEqual([lots((7,), (), 7), lots(TEN_HEAVY, (), 10000)], [((0,),), (ALL_TEN,)])
        self.assertEqual([least_ways((7,), 0, 7), least_ways((7,), 1, 7), least_ways(TEN_HEAVY, 1, 10000)], [1, 0, 0])

    def test_ten_weights(self):
        self.assertEqual([ways(TEN_ONES, (), 5), ways(TEN_ONES, (0, 9), 4), least_ways(TEN_ONES, 3, 2)], [252, 70, 21])
        self.assertEqual(lots(TEN_DOUBLES, (), 1023), (ALL_TEN,))
        self.assertEqual(shortest_lot((1, 1, 1, 1, 2, 2, 2, 3, 3, 4), (9,), 5), (4, 7))
        self.assertEqual(shortest_lot((1, 1, 1, 1, 2, 2, 2, 3, 3, 5), (), 5), (9,))

    def test_ascending_as_tuples_not_by_their_lengths(self):
        self.assertEqual(lots((1, 1, 2, 2, 3), (), 4), ((0, 1, 2), (0, 1, 3), (0, 4), (1, 4), (2, 3)))


class StrengthTest(unittest.TestCase):
    def test_against_all_losses(self):
        for box in SMALL:
            for load in range(1, sum(box) + 1):
                losses = [loss for loss in every_loss(box) if load not in all_sums(rest_of(box, loss))]
                fewest = min(len(loss) for loss in losses)
                self.assertEqual(strength(box, load), fewest, (box, load))
                first = min(loss for loss in losses if len(loss) == fewest)
                self.assertEqual(breaking(box, load), first, (box, load))

    def test_strength_against_safe(self):
        for box in SMALL + [TEN_ONES, (1, 1, 1, 2, 3, 4, 6)]:
            strengths = [strength(box, load) for load in range(1, sum(box) + 1)]
            for lost in range(len(box) + 1):
                self.assertEqual(safe(box, lost), plain_safe(box, lost))
                for load in range(sum(box) + 1):
                    above = all(number > lost for number in strengths[:load])
                    self.assertIs(above, safe(box, lost) >= load, (box, lost, load))

    def test_strength_is_never_above_ways(self):
        for box in SMALL + [TEN_ONES, (1, 1, 1, 2, 3, 4, 6)]:
            for load in range(1, sum(box) + 1):
                self.assertLessEqual(strength(box, load), ways(box, (), load), (box, load))

    def test_load_0_has_none(self):
        for box in ((1,), (1000,), (1, 3), TEN_ONES, TEN_HEAVY):
            self.assertEqual([strength(box, 0), breaking(box, 0)], [None, None])

    def test_one_weight(self):
        self.assertEqual([strength((1,), 1), breaking((1,), 1)], [1, (0,)])
        self.assertEqual([strength((5,), 4), breaking((5,), 4), strength((5,), 5)], [0, (), 1])

    def test_ten_weights(self):
        self.assertEqual([strength(TEN_ONES, load) for load in range(1, 11)], [10, 9, 8, 7, 6, 5, 4, 3, 2, 1])
        self.assertEqual([breaking(TEN_ONES, 1), breaking(TEN_ONES, 9)], [ALL_TEN, (0, 1)])
        self.assertEqual([strength(TEN_DOUBLES, 96), breaking(TEN_DOUBLES, 96)], [1, (5,)])
        self.assertEqual([strength(TEN_HEAVY, 10000), strength(TEN_HEAVY, 9999), breaking(TEN_HEAVY, 9999)], [1, 0, ()])

    def test_a_load_counts_as_weighed_where_any_weights_left_sum_up_to_it(self):
        # The heaviest first don't weigh 6 (point 3), but 3 and 3 do.
        self.assertEqual([strength((3, 3, 4), 6), breaking((3, 3, 4), 6)], [1, (0,)])


if __name__ == "__main__":
    unittest.main()
