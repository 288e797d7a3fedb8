import random
import unittest

from lostweights.benches import Bench
from lostweights.errors import BadBox, BadNumber, BadStep
from lostweights.losses import left, loads, weigh
from plain import all_sums, boxes_up_to, rest_of
from values import ANY_VALUES, NO_INTEGERS, error_of

TEN_DOUBLES = (1, 2, 4, 8, 16, 32, 64, 128, 256, 512)
TEN_HEAVY = (1000,) * 10
BOXES = [(1,), (1000,), (1, 1), (1, 2, 4), (3, 3, 4), (1, 1, 2, 3, 5, 8), (1,) * 10, TEN_DOUBLES, TEN_HEAVY]


def state_of(bench):
    return bench.lost, bench.left, bench.reach, bench.least_unweighed()


class ExamplesTest(unittest.TestCase):
    def test_examples_of_the_interface(self):
        bench = Bench((1, 2, 4))
        found = [bench.reach, bench.lose(1), bench.lost, bench.left, bench.reach, bench.least_unweighed()]
        found += [bench.weigh(5), bench.find(1), bench.reach]
        self.assertEqual(found, [7, None, (1,), (1, 4), 1, 2, (4, 1), None, 7])
        self.assertEqual(error_of(bench.find, 0), (BadStep,))


class StepsTest(unittest.TestCase):
    def assert_as_behind(self, bench, box, loss):
        """The bench says what the functions of losses say of the box behind the loss, and plain sums."""
        told = loads(box, loss)
        self.assertEqual(told, tuple(sorted(all_sums(rest_of(box, loss)))))
        self.assertEqual((bench.lost, bench.left), (loss, left(box, loss)))
        least = next(load for load in range(sum(box) + 2) if load not in told)
        self.assertEqual((bench.least_unweighed(), bench.reach), (least, least - 1), (box, loss))

    def assert_weighs_as_behind(self, bench, box, loss, some):
        before = state_of(bench)
        for load in some:
            taken = weigh(box, loss, load) if load <= sum(box) else None
            if taken is None:
                self.assertEqual(error_of(bench.weigh, load), (BadStep,), (box, loss, load))
            else:
                self.assertEqual(bench.weigh(load), taken, (box, loss, load))
        self.assertEqual(state_of(bench), before)

    def test_behind_each_step(self):
        picked = random.Random(3)
        for box in BOXES + boxes_up_to(3, 3):
            bench, loss = Bench(box), ()
            self.assert_as_behind(bench, box, loss)
            for _ in range(25):
                place = picked.randrange(len(box))
                if place in loss:
                    self.assertIsNone(bench.find(place))
                    loss = tuple(other for other in loss if other != place)
                else:
                    self.assertIsNone(bench.lose(place))
                    loss = tuple(sorted(loss + (place,)))
                self.assert_as_behind(bench, box, loss)
                top = min(sum(box) + 3, 10000)
                some = range(top + 1) if top < 33 else [picked.randint(0, top) for _ in range(20)]
                self.assert_weighs_as_behind(bench, box, loss, some)

    def test_lost_places_are_ascending_whatever_the_order(self):
        bench = Bench((1, 1, 2, 3, 5, 8))
        for place in (4, 0, 5, 2):
            bench.lose(place)
        self.assertEqual((bench.lost, bench.left), ((0, 2, 4, 5), (1, 3)))
        bench.find(2)
        bench.find(0)
        self.assertEqual((bench.lost, bench.left), ((4, 5), (1, 1, 2, 3)))

    def test_each_bench_is_on_its_own(self):
        first, second = Bench((1, 2)), Bench((1, 2))
        first.lose(0)
        self.assertEqual([first.lost, second.lost, second.reach, first.reach], [(0,), (), 3, 0])
        self.assertEqual(Bench((1, 2)).lost, ())


class EdgesTest(unittest.TestCase):
    def test_one_weight(self):
        bench = Bench((1,))
        self.assertEqual(state_of(bench), ((), (1,), 1, 2))
        bench.lose(0)
        self.assertEqual(state_of(bench), ((0,), (), 0, 1))
        self.assertEqual([bench.weigh(0), error_of(bench.weigh, 1), error_of(bench.lose, 0)], [(), (BadStep,), (BadStep,)])
        bench.find(0)
        self.assertEqual([state_of(bench), error_of(bench.find, 0)], [((), (1,), 1, 2), (BadStep,)])

    def test_ten_weights(self):
        bench = Bench(TEN_DOUBLES)
        self.assertEqual([bench.reach, bench.least_unweighed(), bench.weigh(1023)], [1023, 1024, TEN_DOUBLES[::-1]])
        self.assertEqual([error_of(bench.weigh, 1024), error_of(bench.weigh, 10000)], [(BadStep,), (BadStep,)])
        for place in range(10):
            bench.lose(place)
        self.assertEqual(state_of(bench), (tuple(range(10)), (), 0, 1))
        self.assertEqual([bench.weigh(0), error_of(bench.weigh, 512)], [(), (BadStep,)])

    def test_the_greatest_load(self):
        bench = Bench(TEN_HEAVY)
        self.assertEqual([bench.weigh(10000), bench.weigh(0), bench.reach], [TEN_HEAVY, (), 0])
        bench.lose(9)
        self.assertEqual([error_of(bench.weigh, 10000), bench.weigh(9000)], [(BadStep,), TEN_HEAVY[1:]])

    def test_a_load_that_others_would_weigh_is_not_weighed(self):
        bench = Bench((3, 3, 4))
        self.assertEqual(error_of(bench.weigh, 6), (BadStep,))
        bench.lose(2)
        self.assertEqual(bench.weigh(6), (3, 3))

    def test_weights_alike_are_told_apart_by_their_places(self):
        bench = Bench((5, 5))
        bench.lose(1)
        self.assertEqual([error_of(bench.lose, 1), bench.lose(0), bench.lost], [(BadStep,), None, (0, 1)])


class WrongTest(unittest.TestCase):
    def test_wrong_boxes(self):
        for value in ANY_VALUES:
            error = error_of(Bench, value)
            right = value == (1,) and type(value[0]) is int
            self.assertTrue(error is None if right else error[0] is BadBox, value)
        self.assertEqual([error_of(Bench, (2, 1)), error_of(Bench, [1])], [(BadBox, 1), (BadBox, None)])

    def test_wrong_numbers_change_nothing(self):
        bench = Bench((1, 2, 4))
        bench.lose(1)
        before = state_of(bench)
        for value in NO_INTEGERS + (-1, 10 ** 30, -10 ** 30):
            for step in (bench.lose, bench.find, bench.weigh):
                self.assertEqual(error_of(step, value), (BadNumber,), value)
        for step, value in ((bench.lose, 3), (bench.find, 3), (bench.weigh, 10001)):
            self.assertEqual(error_of(step, value), (BadNumber,), value)
        self.assertEqual(state_of(bench), before)

    def test_steps_that_cannot_be_done_change_nothing(self):
        bench = Bench((1, 2, 4))
        bench.lose(1)
        before = state_of(bench)
        for step, value in ((bench.lose, 1), (bench.find, 0), (bench.find, 2), (bench.weigh, 2), (bench.weigh, 8)):
            self.assertEqual(error_of(step, value), (BadStep,), value)
        self.assertEqual(state_of(bench), before)

    def test_a_wrong_number_comes_before_a_step_that_cannot_be_done(self):
        bench = Bench((1, 2))
        for value in (True, False):
            self.assertEqual(error_of(bench.find, value), (BadNumber,))
        bench.lose(0)
        bench.lose(1)
        for value in (True, False, 2):
            self.assertEqual(error_of(bench.lose, value), (BadNumber,))
        self.assertEqual([error_of(bench.weigh, 10000), error_of(bench.weigh, 10001)], [(BadStep,), (BadNumber,)])


if __name__ == "__main__":
    unittest.main()
