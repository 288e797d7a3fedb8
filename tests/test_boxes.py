import unittest

from lostweights.boxes import best_added, edge, gap, most_lost, safe, spare
from plain import boxes_up_to, plain_safe, rest_of

TEN_ONES = (1,) * 10
TEN_DOUBLES = (1, 2, 4, 8, 16, 32, 64, 128, 256, 512)
TEN_HEAVY = (1000,) * 10
SMALL = boxes_up_to(5, 6)
SPARSE = [(1, 2, 4, 8, 15), (1, 1, 2, 2, 4, 5), (1, 1, 1, 2, 3, 4), (1, 2, 5, 10, 20, 50), (3, 3, 7, 9, 1000)]


class ExamplesTest(unittest.TestCase):
    def test_examples_of_the_interface(self):
        found = [safe((1, 1, 2, 3, 5, 8), 1), edge((1, 1, 4, 4)), gap((1, 1, 4, 4), 0)]
        found += [most_lost((1, 1, 1, 2, 3), 2), spare((1, 1, 4, 4), 0), best_added((1, 1, 4, 4), 0)]
        self.assertEqual(found, [12, (2, 1, 0, 0, 0), 2, 2, (2, 3), (3, 13)])


class SafeTest(unittest.TestCase):
    def test_safe_against_all_losses_and_all_sums(self):
        for box in SMALL + SPARSE:
            for lost in range(len(box) + 1):
                self.assertEqual(safe(box, lost), plain_safe(box, lost), (box, lost))

    def test_gap_is_the_least_number_of_lightest_weights_with_this_sum(self):
        for box in SMALL + SPARSE:
            for lost in range(len(box) + 1):
                sums = [sum(box[:many]) for many in range(len(box) + 1)]
                self.assertEqual(gap(box, lost), sums.index(plain_safe(box, lost)), (box, lost))

    def test_edge_is_safe_for_each_number_of_lost_weights(self):
        for box in SMALL + SPARSE:
            self.assertEqual(edge(box), tuple(plain_safe(box, lost) for lost in range(len(box) + 1)), box)

    def test_one_weight(self):
        self.assertEqual([edge((1,)), edge((2,)), edge((1000,))], [(1, 0), (0, 0), (0, 0)])
        self.assertEqual([gap((1,), 0), gap((1,), 1), gap((1000,), 0)], [1, 0, 0])

    def test_ten_weights(self):
        self.assertEqual(edge(TEN_ONES), (10, 9, 8, 7, 6, 5, 4, 3, 2, 1, 0))
        self.assertEqual(edge(TEN_DOUBLES), (1023,) + (0,) * 10)
        self.assertEqual(edge(TEN_HEAVY), (0,) * 11)
        self.assertEqual([gap(TEN_DOUBLES, 0), gap(TEN_ONES, 4), gap(TEN_HEAVY, 0)], [10, 6, 0])

    def test_a_weight_one_above_the_sum_is_allowed_and_two_above_is_not(self):
        self.assertEqual([safe((1, 2, 4), 0), safe((1, 2, 5), 0)], [7, 3])
        self.assertEqual([safe((1, 1, 2, 3), 1), safe((1, 1, 2, 4), 1), safe((1, 1, 3), 1)], [4, 2, 1])

    def test_heavy_weights_up_to_the_greatest(self):
        box = TEN_DOUBLES[:9] + (512,)
        self.assertEqual(safe(box, 0), 1023)
        self.assertEqual(safe((1, 2, 4, 8, 16, 32, 64, 128, 256, 1000), 0), 511)
        self.assertEqual(safe((1, 2, 4, 8, 16, 32, 64, 128, 745, 1000), 0), 255)


class MostLostTest(unittest.TestCase):
    def test_the_greatest_number_that_is_safe(self):
        for box in SMALL + SPARSE:
            for load in range(sum(box[:4]) + 2):
                numbers = [lost for lost in range(len(box) + 1) if plain_safe(box, lost) >= load]
                self.assertEqual(most_lost(box, load), max(numbers, default=None), (box, load))

    def test_load_0_allows_all_to_be_lost(self):
        self.assertEqual([most_lost((5,), 0), most_lost(TEN_HEAVY, 0)], [1, 10])

    def test_none_where_no_number_is_safe(self):
        self.assertEqual([most_lost((2,), 1), most_lost((1,), 2), most_lost(TEN_HEAVY, 10000)], [None] * 3)

    def test_greatest_loads(self):
        self.assertEqual([most_lost(TEN_DOUBLES, 1023), most_lost(TEN_DOUBLES, 1024)], [0, None])
        self.assertEqual([most_lost(TEN_ONES, 10), most_lost(TEN_ONES, 11)], [0, None])


def plain_spare(box, lost):
    return tuple(
        place for place in range(len(box))
        if len(box) - 1 >= max(1, lost) and plain_safe(rest_of(box, (place,)), lost) == plain_safe(box, lost)
    )


class SpareTest(unittest.TestCase):
    def test_against_leaving_out_each_weight(self):
        for box in SMALL + SPARSE:
            for lost in range(len(box) + 1):
                self.assertEqual(spare(box, lost), plain_spare(box, lost), (box, lost))

    def test_one_weight_and_lost_ones_stay(self):
        self.assertEqual([spare((7,), 0), spare((7,), 1)], [(), ()])
        self.assertEqual([spare((5, 7), 0), spare((5, 7), 1), spare((5, 7), 2)], [(0, 1), (0, 1), ()])
        self.assertEqual([spare(TEN_HEAVY, 9), spare(TEN_HEAVY, 10)], [tuple(range(10)), ()])

    def test_ten_weights(self):
        self.assertEqual([spare(TEN_ONES, 3), spare(TEN_DOUBLES, 0)], [(), ()])
        self.assertEqual(spare((1, 1, 1, 1, 1, 1, 1, 1, 1, 1000), 0), (9,))


class BestAddedTest(unittest.TestCase):
    def test_against_every_weight_for_small_boxes(self):
        for box in boxes_up_to(3, 5):
            for lost in range(len(box) + 1):
                # A weight above all sums and by more than 1 is as good as the greatest.
                loads = {weight: plain_safe(tuple(sorted(box + (weight,))), lost) for weight in range(1, 20)}
                most = max(loads.values())
                least = min(weight for weight in loads if loads[weight] == most)
                self.assertEqual(best_added(box, lost), (least, most), (box, lost))

    def test_all_lost(self):
        self.assertEqual([best_added((1, 1), 2), best_added((1, 2), 2), best_added((9,), 1)], [(1, 1), (1, 0), (1, 0)])

    def test_the_least_of_weights_that_do_as_well(self):
        self.assertEqual(best_added((3, 3), 1), (1, 0))
        self.assertEqual(best_added((1, 1, 1000), 0), (3, 5))
        self.assertEqual(best_added((1, 1, 5), 0), (3, 10))

    def test_ten_weights_get_an_eleventh(self):
        self.assertEqual(best_added(TEN_ONES, 0), (11, 21))
        self.assertEqual(best_added(TEN_ONES, 10), (1, 1))
        self.assertEqual(best_added((1, 2, 4, 8, 16, 32, 64, 128, 256, 489), 0), (1000, 2000))
        self.assertEqual(best_added(TEN_DOUBLES, 0), (1000, 2023))
        self.assertEqual(best_added(TEN_HEAVY, 0), (1, 1))


if __name__ == "__main__":
    unittest.main()
