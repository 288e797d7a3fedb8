import unittest
from itertools import combinations

from lostweights.boxes import safe
from lostweights.finds import fewest_finds, finds, worst_losses
from plain import all_losses, boxes_up_to, every_loss, plain_reach, plain_safe, rest_of

SMALL = boxes_up_to(3, 5) + [(1, 1, 2, 2), (1, 2, 3, 4), (1, 1, 2, 3, 5), (2, 3, 5, 7, 8), (1, 1, 1, 1, 1, 2)]
TEN_ONES = (1,) * 10
TEN_DOUBLES = (1, 2, 4, 8, 16, 32, 64, 128, 256, 512)
TEN_HEAVY = (1000,) * 10
ALL_TEN = tuple(range(10))


def plain_finds(box, loss, load):
    """All lots of a loss that make the load safe where they are found again, the smallest of these."""
    lots = [lot for many in range(len(loss) + 1) for lot in combinations(loss, many)]
    enough = [lot for lot in lots if plain_reach(rest_of(box, set(loss) - set(lot))) >= load]
    fewest = min((len(lot) for lot in enough), default=None)
    return tuple(sorted(lot for lot in enough if len(lot) == fewest))


class ExamplesTest(unittest.TestCase):
    def test_examples_of_the_interface(self):
        found = [finds((1, 1, 2, 3), (0, 1, 2), 4), fewest_finds((1, 1, 2, 3), (0, 1, 2), 3)]
        found += [fewest_finds((1, 1), (0, 1), 3), worst_losses((1, 1, 2), 1)]
        self.assertEqual(found, [((0, 1), (0, 2), (1, 2)), 2, None, ((2,),)])


class FindsTest(unittest.TestCase):
    def test_against_all_lots_of_the_loss(self):
        for box in SMALL:
            for loss in every_loss(box):
                for load in range(sum(box) + 2):
                    wanted = plain_finds(box, loss, load)
                    self.assertEqual(finds(box, loss, load), wanted, (box, loss, load))
                    fewest = len(wanted[0]) if wanted else None
                    self.assertEqual(fewest_finds(box, loss, load), fewest, (box, loss, load))

    def test_nothing_is_needed(self):
        for box, loss, load in (((1,), (), 1), ((1,), (0,), 0), ((1, 1), (0,), 1), (TEN_HEAVY, ALL_TEN, 0), (TEN_ONES, (3,), 9)):
            self.assertEqual([finds(box, loss, load), fewest_finds(box, loss, load)], [((),), 0])

    def test_not_even_all_are_enough(self):
        for box, loss, load in (((1,), (0,), 2), ((1,), (), 2), ((2,), (0,), 1), (TEN_HEAVY, ALL_TEN, 10000), (TEN_ONES, (), 11)):
            self.assertEqual([finds(box, loss, load), fewest_finds(box, loss, load)], [(), None])

    def test_all_are_needed(self):
        self.assertEqual([finds((1,), (0,), 1), fewest_finds((1,), (0,), 1)], [((0,),), 1])
        self.assertEqual([finds(TEN_DOUBLES, ALL_TEN, 1023), fewest_finds(TEN_DOUBLES, ALL_TEN, 1023)], [(ALL_TEN,), 10])
        self.assertEqual([finds(TEN_DOUBLES, ALL_TEN, 1024), fewest_finds(TEN_DOUBLES, (), 10000)], [(), None])

    def test_ten_weights(self):
        self.assertEqual(finds(TEN_ONES, ALL_TEN, 1), tuple((place,) for place in range(10)))
        self.assertEqual(finds(TEN_ONES, ALL_TEN, 4), tuple(combinations(range(10), 4)))
        self.assertEqual(finds(TEN_DOUBLES, (1, 4, 9), 20), ((1, 4),))
        self.assertEqual(fewest_finds((1, 1, 2, 3, 5, 8, 13, 21, 34, 55), ALL_TEN, 12), 5)

    def test_places_stand_for_the_box_not_for_the_loss(self):
        self.assertEqual(finds((1, 1, 2, 3), (2, 3), 4), ((2,), (3,)))
        self.assertEqual(finds((1, 2, 2, 2), (1, 3), 5), ((1,), (3,)))


class WorstLossesTest(unittest.TestCase):
    def test_against_all_losses(self):
        for box in SMALL + [(1, 1, 1, 2, 3, 4, 6), (3, 3, 3), (1, 3, 3)]:
            for lost in range(len(box) + 1):
                wanted = tuple(loss for loss in all_losses(box, lost) if plain_reach(rest_of(box, loss)) == plain_safe(box, lost))
                self.assertEqual(worst_losses(box, lost), wanted, (box, lost))
                self.assertTrue(wanted)

    def test_no_loss_is_worse(self):
        for box in SMALL:
            for lost in range(len(box) + 1):
                for loss in all_losses(box, lost):
                    self.assertGreaterEqual(plain_reach(rest_of(box, loss)), safe(box, lost), (box, loss))

    def test_none_or_all_lost(self):
        for box in ((1,), (1000,), (1, 3), TEN_ONES, TEN_HEAVY):
            whole = tuple(range(len(box)))
            self.assertEqual([worst_losses(box, 0), worst_losses(box, len(box))], [((),), (whole,)])

    def test_ten_weights(self):
        self.assertEqual(worst_losses(TEN_ONES, 5), tuple(combinations(range(10), 5)))
        self.assertEqual(worst_losses(TEN_DOUBLES, 1), ((0,),))
        self.assertEqual(worst_losses(TEN_HEAVY, 3), tuple(combinations(range(10), 3)))
        self.assertEqual(worst_losses(TEN_DOUBLES, 2), tuple((0, place) for place in range(1, 10)))


if __name__ == "__main__":
    unittest.main()
