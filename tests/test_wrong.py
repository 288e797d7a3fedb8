"""Wrong arguments: values of every kind in each place, each limit from both sides, several wrong ones at once."""

import unittest

from lostweights import bests, boxes, chances, days, finds, losses, pans, texts, ways
from lostweights.benches import Bench
from lostweights.desks import Desk
from lostweights.errors import BadBox, BadChances, BadLine, BadLoss, BadNumber, BadOrders, BadPrices, TooMany
from values import ANY_VALUES, NO_INTEGERS, NO_TUPLES, error_of

BOX = (1, 2, 4)
PRICES = (1, 3, 4)
CHANCES = ((0, 1), (1, 2), (99, 100))


def bench_left(box):
    return Bench(box).left


def bench_lost(box, place):
    bench = Bench(box)
    bench.lose(place)
    return bench.lost


def bench_found(box, place):
    bench = Bench(box)
    for other in range(len(box)):
        bench.lose(other)
    bench.find(place)
    return bench.lost


def bench_weigh(box, load):
    return Bench(box).weigh(load)


def desk_answer(box, line):
    return Desk(box).do(line)


# Each function with arguments that are all right, and the kind of each.
CALLS = (
    (boxes.safe, (BOX, 1), ("box", "lost")),
    (boxes.gap, (BOX, 1), ("box", "lost")),
    (boxes.edge, (BOX,), ("box",)),
    (boxes.most_lost, (BOX, 2), ("box", "number")),
    (boxes.spare, (BOX, 1), ("box", "lost")),
    (boxes.best_added, (BOX, 1), ("box", "lost")),
    (losses.left, (BOX, (0,)), ("box", "loss")),
    (losses.loads, (BOX, (0,)), ("box", "loss")),
    (losses.sure_loads, (BOX, 1), ("box", "lost")),
    (losses.weigh, (BOX, (0,), 3), ("box", "loss", "number")),
    (losses.flaw, (BOX, 1), ("box", "lost")),
    (losses.shows_flaw, (BOX, 1, None), ("box", "lost", "any")),
    (bests.best_safe, (3, 1), ("number", "lost")),
    (bests.best_box, (3, 1), ("number", "lost")),
    (bests.fewest_weights, (1, 4), ("number", "number")),
    (bests.count_safe, (3, 1, 2, 4), ("number", "number", "number", "number")),
    (bests.cheapest, (PRICES, 1, 2), ("prices", "number", "number")),
    (bests.shows_cheapest, (PRICES, 1, 2, None), ("prices", "number", "number", "any")),
    (chances.chance_safe, (BOX, CHANCES, 3), ("box", "chances", "number")),
    (chances.mean_safe, (BOX, CHANCES), ("box", "chances")),
    (bench_left, (BOX,), ("box",)),
    (bench_lost, (BOX, 1), ("box", "number")),
    (bench_found, (BOX, 1), ("box", "number")),
    (bench_weigh, (BOX, 3), ("box", "number")),
    (texts.box_text, (BOX,), ("box",)),
    (texts.loss_text, (BOX, (0,)), ("box", "loss")),
    (texts.orders_text, (BOX, (("lose", 0),)), ("box", "orders")),
    (texts.tale, (BOX, (("lose", 0),)), ("box", "orders")),
    (texts.read_box, ("box 1\n",), ("text",)),
    (texts.read_loss, (BOX, "lost 0\n"), ("box", "text")),
    (texts.read_orders, ("box 1\nlose 0\n",), ("text",)),
    (ways.lots, (BOX, (0,), 2), ("box", "loss", "number")),
    (ways.ways, (BOX, (0,), 2), ("box", "loss", "number")),
    (ways.shortest_lot, (BOX, (0,), 2), ("box", "loss", "number")),
    (ways.least_ways, (BOX, 1, 2), ("box", "lost", "number")),
    (ways.strength, (BOX, 2), ("box", "number")),
    (ways.breaking, (BOX, 2), ("box", "number")),
    (days.chance_after, (BOX, CHANCES, 2, 3), ("box", "chances", "number", "number")),
    (days.mean_days, (BOX, CHANCES, 3), ("box", "chances", "number")),
    (pans.both_loads, (BOX, (0,)), ("box", "loss")),
    (pans.spread, (BOX, (0,), 2), ("box", "loss", "number")),
    (pans.shows_spread, (BOX, (0,), 2, None), ("box", "loss", "number", "any")),
    (pans.both_safe, (BOX, 1), ("box", "lost")),
    (finds.finds, (BOX, (0,), 2), ("box", "loss", "number")),
    (finds.fewest_finds, (BOX, (0,), 2), ("box", "loss", "number")),
    (finds.worst_losses, (BOX, 1), ("box", "lost")),
    (desk_answer, (BOX, "lose 1"), ("box", "text")),
)

# Each argument that has limits: the least value and the greatest one that may stand there.
LIMITS = (
    (boxes.safe, (BOX, 1), 1, 0, 3),
    (boxes.safe, ((5,), 1), 1, 0, 1),
    (boxes.safe, ((5,) * 10, 1), 1, 0, 10),
    (boxes.gap, (BOX, 1), 1, 0, 3),
    (boxes.most_lost, (BOX, 1), 1, 0, 10000),
    (boxes.spare, (BOX, 1), 1, 0, 3),
    (boxes.best_added, (BOX, 1), 1, 0, 3),
    (losses.sure_loads, (BOX, 1), 1, 0, 3),
    (losses.weigh, (BOX, (1,), 1), 2, 0, 7),
    (losses.weigh, ((1000,) * 10, (), 1), 2, 0, 10000),
    (losses.flaw, (BOX, 1), 1, 0, 3),
    (losses.shows_flaw, (BOX, 1, None), 1, 0, 3),
    (bests.best_safe, (3, 0), 0, 1, 10),
    (bests.best_safe, (3, 0), 1, 0, 3),
    (bests.best_safe, (10, 0), 1, 0, 10),
    (bests.best_box, (3, 0), 0, 1, 10),
    (bests.best_box, (3, 0), 1, 0, 3),
    (bests.fewest_weights, (1, 4), 0, 0, 10),
    (bests.fewest_weights, (1, 4), 1, 1, 1024),
    (bests.count_safe, (3, 0, 2, 4), 0, 1, 6),
    (bests.count_safe, (3, 0, 2, 4), 1, 0, 3),
    (bests.count_safe, (3, 0, 2, 4), 2, 0, 60),
    (bests.count_safe, (3, 0, 2, 4), 3, 1, 8),
    (bests.cheapest, (PRICES, 1, 2), 1, 0, 4),
    (bests.cheapest, (PRICES, 1, 2), 2, 1, 60),
    (bests.shows_cheapest, (PRICES, 1, 2, None), 1, 0, 4),
    (bests.shows_cheapest, (PRICES, 1, 2, None), 2, 1, 60),
    (chances.chance_safe, (BOX, CHANCES, 3), 2, 0, 10000),
    (bench_lost, (BOX, 1), 1, 0, 2),
    (bench_lost, ((5,), 0), 1, 0, 0),
    (bench_lost, ((5,) * 10, 0), 1, 0, 9),
    (bench_found, (BOX, 1), 1, 0, 2),
    (bench_found, ((5,) * 10, 0), 1, 0, 9),
    (bench_weigh, ((1000,) * 10, 0), 1, 0, 10000),
    (ways.lots, (BOX, (0,), 2), 2, 0, 7),
    (ways.lots, ((1000,) * 10, (0,), 2), 2, 0, 10000),
    (ways.ways, (BOX, (0,), 2), 2, 0, 7),
    (ways.shortest_lot, (BOX, (0,), 2), 2, 0, 7),
    (ways.least_ways, (BOX, 1, 2), 1, 0, 3),
    (ways.least_ways, (BOX, 1, 2), 2, 0, 7),
    (ways.strength, (BOX, 2), 1, 0, 7),
    (ways.strength, ((1000,) * 10, 2), 1, 0, 10000),
    (ways.breaking, (BOX, 2), 1, 0, 7),
    (days.chance_after, (BOX, CHANCES, 2, 3), 2, 0, 30),
    (days.chance_after, (BOX, CHANCES, 2, 3), 3, 0, 10000),
    (days.mean_days, (BOX, CHANCES, 3), 2, 0, 10000),
    (pans.spread, (BOX, (0,), 2), 2, 0, 10000),
    (pans.shows_spread, (BOX, (0,), 2, None), 2, 0, 10000),
    (pans.both_safe, (BOX, 1), 1, 0, 3),
    (pans.both_safe, ((5,) * 7, 1), 1, 0, 7),
    (finds.finds, (BOX, (0,), 2), 2, 0, 10000),
    (finds.fewest_finds, (BOX, (0,), 2), 2, 0, 10000),
    (finds.worst_losses, (BOX, 1), 1, 0, 3),
    (finds.worst_losses, ((5,) * 10, 1), 1, 0, 10),
)

# The functions that take fewer weights than a box may have.
MOST = {days.mean_days: 6, pans.both_loads: 7, pans.spread: 7, pans.shows_spread: 7, pans.both_safe: 7}

WRONG_BOXES = (
    ((), None), ((1,) * 11, None), (("a",) * 11, None), ([1, 2], None), ("12", None), ({1: 2}, None), (1, None),
    (True, None), (None, None),
    ((0,), 0), ((1001,), 0), ((-1,), 0), ((True,), 0), (("1",), 0), ((None,), 0), (((1,),), 0), (([1],), 0),
    (({},), 0), ((1, True), 1), ((1, 2, False), 2), ((2, 1), 1), ((1, 2, 1001), 2), ((1, 1000, 999), 2),
    ((3, 3, 2, "a"), 2), ((1, None, 0), 1), ((1,) * 9 + (0,), 9), ((5, 4, 4, 3), 1), ((1001, 1), 0), ((0, 0), 0),
)
RIGHT_BOXES = ((1,), (1000,), (1, 1), (1,) * 10, (1000,) * 10, (999, 1000), (1, 1000))

WRONG_LOSSES = (
    (3,), (-1,), (0, 0), (1, 0), (0, 1, 2, 3), (0, 2, 1), (True,), (False,), (0, True), ("0",), (None,), ((),), ((0,),),
    ([],), ({},), (10 ** 30,), (0, 3), *NO_TUPLES,
)
RIGHT_LOSSES = ((), (0,), (2,), (0, 1), (0, 2), (1, 2), (0, 1, 2))

WRONG_PRICES = (
    (), (1,) * 13, (-1,), (100,), (1, -1), (1, 100, 2), (True,), (1, False), ("1",), (None,), ((1,),), ([1],), ({},),
    *NO_TUPLES,
)
RIGHT_PRICES = ((0,), (99,), (0, 99), (0,) * 12, (99,) * 12, (5, 0, 7))

# Put in the place of one chance of three.
WRONG_CHANCES = (
    (0, 0), (0, 101), (101, 101), (2, 1), (101, 100), (-1, 1), (1, -1), (-1, -1), (1, 10 ** 30), (True, 1), (False, 1),
    (1, True), (0, False), ("0", 1), (0, "1"), (None, 1), (0, None), (0, (1,)), ([0], 1), (0, {}), (0,), (0, 1, 1),
    (), [0, 1], {0: 1}, "01", 0, 1, None, True, ((0, 1),),
)
RIGHT_CHANCES = ((0, 1), (1, 1), (0, 100), (100, 100), (99, 100), (7, 100), (2, 4))

NAMED = {
    "box": BadBox, "lost": BadNumber, "number": BadNumber, "loss": BadLoss, "prices": BadPrices,
    "chances": BadChances, "orders": BadOrders, "text": BadLine,
}


def with_argument(args, at, value):
    return args[:at] + (value,) + args[at + 1:]


def places_of(kind):
    return [(function, args, at) for function, args, kinds in CALLS for at, one in enumerate(kinds) if one == kind]


class WrongValuesTest(unittest.TestCase):
    def test_right_arguments_raise_nothing(self):
        for function, args, _ in CALLS:
            self.assertIsNone(error_of(function, *args), function)

    def test_no_integer_where_a_number_belongs(self):
        for function, args, at in places_of("number") + places_of("lost"):
            for value in NO_INTEGERS + (10 ** 30, -10 ** 30, -1):
                wrong = with_argument(args, at, value)
                self.assertEqual(error_of(function, *wrong), (BadNumber,), (function, wrong))

    def test_numbers_just_inside_and_just_outside_of_their_limits(self):
        for function, args, at, low, high in LIMITS:
            for value in (low, high):
                right = with_argument(args, at, value)
                self.assertIsNone(error_of(function, *right), (function, right))
            for value in (low - 1, high + 1):
                wrong = with_argument(args, at, value)
                self.assertEqual(error_of(function, *wrong), (BadNumber,), (function, wrong))

    def test_each_limit_is_tested(self):
        tested = {(function, at) for function, _, at, _, _ in LIMITS}
        wanted = {(function, at) for function, _, at in places_of("number") + places_of("lost")}
        self.assertEqual(tested, wanted)

    def test_lost_is_at_most_the_number_of_weights_named(self):
        self.assertEqual(error_of(bests.best_safe, 1, 2), (BadNumber,))
        self.assertEqual(error_of(bests.count_safe, 6, 6, 2, 4), None)
        self.assertEqual(error_of(bests.count_safe, 5, 6, 2, 4), (BadNumber,))
        self.assertEqual(error_of(boxes.best_added, (1,) * 10, 10), None)
        self.assertEqual(error_of(boxes.best_added, (1,) * 10, 11), (BadNumber,))

    def test_wrong_boxes_and_their_first_wrong_place(self):
        for function, args, at in places_of("box"):
            for box, index in WRONG_BOXES:
                wrong = with_argument(args, at, box)
                self.assertEqual(error_of(function, *wrong), (BadBox, index), (function, wrong))
            for value in NO_TUPLES:
                wrong = with_argument(args, at, value)
                self.assertEqual(error_of(function, *wrong), (BadBox, None), (function, wrong))

    def test_boxes_at_the_limits_are_right(self):
        for box in RIGHT_BOXES:
            for function, args, _ in ((boxes.safe, (box, 0), 0), (boxes.edge, (box,), 0), (losses.left, (box, ()), 0)):
                self.assertIsNone(error_of(function, *args), (function, box))

    def test_wrong_losses(self):
        for function, args, at in places_of("loss"):
            for loss in WRONG_LOSSES:
                wrong = with_argument(args, at, loss)
                self.assertEqual(error_of(function, *wrong), (BadLoss,), (function, wrong))
            for loss in RIGHT_LOSSES:
                self.assertIsNone(error_of(function, *with_argument(args, at, loss)), (function, loss))

    def test_wrong_prices(self):
        for function, args, at in places_of("prices"):
            for prices in WRONG_PRICES:
                wrong = with_argument(args, at, prices)
                self.assertEqual(error_of(function, *wrong), (BadPrices,), (function, wrong))
            for prices in RIGHT_PRICES:
                self.assertIsNone(error_of(function, *with_argument(args, at, prices)), (function, prices))

    def test_wrong_chances(self):
        for function, args, at in places_of("chances"):
            for number in (0, 1, 2, 4, 10):
                wrong = with_argument(args, at, ((0, 1),) * number)
                self.assertEqual(error_of(function, *wrong), (BadChances,), (function, wrong))
            for value in NO_TUPLES + (list(CHANCES), (0, 1, 1)):
                wrong = with_argument(args, at, value)
                self.assertEqual(error_of(function, *wrong), (BadChances,), (function, wrong))
            for place in range(3):
                for chance in WRONG_CHANCES:
                    wrong = with_argument(args, at, with_argument(CHANCES, place, chance))
                    self.assertEqual(error_of(function, *wrong), (BadChances,), (function, wrong))
                for chance in RIGHT_CHANCES:
                    right = with_argument(args, at, with_argument(CHANCES, place, chance))
                    self.assertIsNone(error_of(function, *right), (function, right))

    def test_wrong_orders_and_texts(self):
        for function, args, at in places_of("orders"):
            for value in NO_TUPLES:
                self.assertEqual(error_of(function, *with_argument(args, at, value)), (BadOrders, None), value)
            for value in NO_TUPLES + ((), (0,), ("lose",), ("lose", "0"), ("lose", True)):
                wrong = with_argument(args, at, (("lose", 0), value))
                self.assertEqual(error_of(function, *wrong), (BadOrders, 1), value)
        for function, args, at in places_of("text"):
            for value in ANY_VALUES:
                self.assertEqual(error_of(function, *with_argument(args, at, value)), (BadLine, 0), value)

    def test_several_wrong_arguments_raise_the_error_of_the_leftmost(self):
        for function, args, kinds in CALLS:
            for first, kind in enumerate(kinds):
                if kind == "any":
                    continue
                # Everything from this argument on is wrong.
                wrong = args[:first] + (None,) * (len(args) - first)
                self.assertEqual(error_of(function, *wrong)[0], NAMED[kind], (function, wrong))
                for second in range(first + 1, len(args)):
                    wrong = with_argument(with_argument(args, first, "x"), second, True)
                    self.assertEqual(error_of(function, *wrong)[0], NAMED[kind], (function, wrong))

    def test_too_many_weights_behind_all_other_errors(self):
        for function, args, kinds in [call for call in CALLS if call[2][0] == "box"]:
            most = MOST.get(function, 10)
            for many in range(3, 11):
                long = with_argument(args, 0, BOX + (4,) * (many - 3))
                if "chances" in kinds:
                    long = with_argument(long, 1, ((1, 2),) * many)
                wanted = None if many <= most else (TooMany, most)
                self.assertEqual(error_of(function, *long), wanted, (function, long))
                for at, kind in enumerate(kinds):
                    if kind not in ("box", "any"):
                        wrong = with_argument(long, at, None)
                        self.assertEqual(error_of(function, *wrong)[0], NAMED[kind], (function, wrong))

    def test_shows_answers_for_any_last_argument(self):
        for function, args, at in places_of("any"):
            for value in ANY_VALUES + ((1, BOX), (BOX, 1), ((0,), 2), (1, 2, 3), ((), ())):
                self.assertIn(function(*with_argument(args, at, value)), (True, False), (function, value))
                self.assertIs(type(function(*with_argument(args, at, value))), bool)


class SameAnswersTest(unittest.TestCase):
    def test_equal_arguments_have_equal_answers(self):
        for function, args, _ in CALLS:
            self.assertEqual(function(*args), function(*args), function)

    def test_arguments_are_not_modified(self):
        value = ([1], {"a": [2]})
        losses.shows_flaw(BOX, 1, value)
        bests.shows_cheapest(PRICES, 1, 2, value)
        self.assertEqual(value, ([1], {"a": [2]}))
        box = [2, 1]
        error_of(boxes.safe, box, 0)
        error_of(Bench, box)
        self.assertEqual(box, [2, 1])
        orders, pairs = [["lose", 0]], [[0, 1]]
        error_of(texts.tale, (1,), orders)
        error_of(chances.mean_safe, (1,), pairs)
        self.assertEqual((orders, pairs), ([["lose", 0]], [[0, 1]]))


if __name__ == "__main__":
    unittest.main()
