import random
import unittest

from lostweights.benches import Bench
from lostweights.errors import BadBox, BadLine, BadLoss, BadOrders, BadStep
from lostweights.texts import box_text, loss_text, orders_text, read_box, read_loss, read_orders, tale
from plain import boxes_up_to, every_loss
from values import ANY_VALUES, NO_TUPLES, error_of

TEN_DOUBLES = (1, 2, 4, 8, 16, 32, 64, 128, 256, 512)
TEN_HEAVY = (1000,) * 10
BOXES = boxes_up_to(3, 4) + [(1000,), (9, 10, 99, 100, 999, 1000), TEN_DOUBLES, TEN_HEAVY]
BOX = (1, 2, 4)


def picked_orders(picked, box, many):
    orders = []
    for _ in range(many):
        word = picked.choice(("lose", "find", "weigh"))
        top = picked.choice((min(sum(box) + 1, 10000), 10000)) if word == "weigh" else len(box) - 1
        orders.append((word, picked.randint(0, top)))
    return tuple(orders)


class ExamplesTest(unittest.TestCase):
    def test_examples_of_the_interface(self):
        orders = (("lose", 1), ("weigh", 5), ("weigh", 2), ("find", 0), ("weigh", 0))
        found = [box_text(BOX), loss_text(BOX, (0, 2)), orders_text(BOX, orders[:2]), read_loss(BOX, "lost\n")]
        self.assertEqual(found, ["box 1 2 4\n", "lost 0 2\n", "box 1 2 4\nlose 1\nweigh 5\n", ()])
        found = [read_box("box 1 1\n"), read_orders("box 3\nfind 0\n"), tale(BOX, orders)]
        lines = "lose 1: reach 1\nweigh 5: 4 + 1\nweigh 2: not weighed\nfind 0: not done\nweigh 0: nothing\n"
        self.assertEqual(found, [(1, 1), ((3,), (("find", 0),)), lines])
        self.assertEqual(error_of(read_orders, "box 1 2\nlose 2\n"), (BadLine, 1))


class WrittenTest(unittest.TestCase):
    def test_texts_by_hand(self):
        self.assertEqual([box_text((1000,)), box_text((1,) * 10)], ["box 1000\n", "box 1 1 1 1 1 1 1 1 1 1\n"])
        self.assertEqual([loss_text(BOX, ()), loss_text(BOX, (1,)), loss_text(BOX, (0, 1, 2))],
                         ["lost\n", "lost 1\n", "lost 0 1 2\n"])
        self.assertEqual(loss_text(TEN_HEAVY, tuple(range(10))), "lost 0 1 2 3 4 5 6 7 8 9\n")
        self.assertEqual([orders_text((5,), ()), orders_text((5,), (("find", 0),))], ["box 5\n", "box 5\nfind 0\n"])
        orders = (("weigh", 0), ("weigh", 10000), ("lose", 9), ("find", 9), ("find", 9))
        text = "box 1 2 4 8 16 32 64 128 256 512\nweigh 0\nweigh 10000\nlose 9\nfind 9\nfind 9\n"
        self.assertEqual(orders_text(TEN_DOUBLES, orders), text)

    def test_two_hundred_orders(self):
        orders = (("lose", 0), ("find", 0)) * 100
        text = "box 7\n" + "lose 0\nfind 0\n" * 100
        self.assertEqual([orders_text((7,), orders), read_orders(text)], [text, ((7,), orders)])
        self.assertEqual(tale((7,), orders), "lose 0: reach 0\nfind 0: reach 0\n" * 100)
        more = orders + (("weigh", 0),)
        self.assertEqual(error_of(orders_text, (7,), more), (BadOrders, None))
        self.assertEqual(error_of(tale, (7,), more), (BadOrders, None))
        self.assertEqual(error_of(read_orders, text + "weigh 0\n"), (BadLine, 201))


class ReadTest(unittest.TestCase):
    def test_a_text_tells_what_it_was_written_for(self):
        picked = random.Random(4)
        for box in BOXES:
            self.assertEqual(read_box(box_text(box)), box)
            self.assertEqual(read_orders(box_text(box)), (box, ()))
            for loss in every_loss(box):
                self.assertEqual(read_loss(box, loss_text(box, loss)), loss)
            for many in (1, 2, 30, 200):
                orders = picked_orders(picked, box, many)
                self.assertEqual(read_orders(orders_text(box, orders)), (box, orders))

    def test_kinds_of_what_is_read(self):
        self.assertIs(type(read_box("box 1 2\n")), tuple)
        self.assertIs(type(read_loss(BOX, "lost 1\n")), tuple)
        box, orders = found = read_orders("box 1\nlose 0\n")
        self.assertEqual([type(found), type(box), type(orders), type(orders[0])], [tuple] * 4)
        self.assertIs(type(orders[0][1]), int)

    def assert_bad(self, function, args, texts):
        for text, line in texts:
            self.assertEqual(error_of(function, *args, text), (BadLine, line), (function, text))

    def test_no_string_and_no_line(self):
        for value in ANY_VALUES + (("box 1\n",), ["box 1\n"], {"box 1\n": 1}, ("box", 1), "\n", "\n\n", " \n"):
            self.assert_bad(read_box, (), [(value, 0)])
            self.assert_bad(read_loss, (BOX,), [(value, 0)])
            self.assert_bad(read_orders, (), [(value, 0)])

    def test_a_last_line_that_is_not_ended(self):
        self.assert_bad(read_box, (), [("box 1", 0), ("x", 0), ("box 1\nx", 1), ("box 1\n ", 1), ("\n\nbox 1", 2)])
        self.assert_bad(read_loss, (BOX,), [("lost", 0), ("lost 0", 0), ("lost\nlost", 1), ("x\nlost\nlost 1", 2)])
        self.assert_bad(read_orders, (), [("box 1", 0), ("box 1\nlose 0", 1), ("box 1\nlose 0\nfind 0", 2)])

    def test_a_last_line_that_is_not_ended_comes_before_wrong_lines(self):
        self.assert_bad(read_box, (), [("x\nbox 1", 1)])
        self.assert_bad(read_orders, (), [("x\ny\nbox 1", 2), ("box 1\nlose 7\nlose 0\nweigh", 3)])
        self.assert_bad(read_orders, (), [("box 1\n" + "weigh 0\n" * 201 + "weigh 0", 202)])

    def test_lines_of_boxes(self):
        for line in (
            "box", "box ", "box  1", "box 1 ", " box 1", "box 1  2", "box\t1", "box 1\t2", "box 1\r", "Box 1", "boxes 1",
            "box 01", "box 00", "box +1", "box -1", "box 1.0", "box 1,2", "box 1_0", "box x", "box 1 x", "lost 1", "1",
            "box 0", "box 1001", "box 2 1", "box 1 1001", "box 10000", "box 100000", "box 1e2", "box 0x1", "box \u0661",
            "box \u00b2", "box 1\u00a02", "box" + " 1" * 11, "box " + "1" * 5000, "box " + "0" * 5000, "box 1\x0b", "",
            "box 1\x0c2", "box 1\u2028", "box 1\x00", "box \uff11",
        ):
            self.assert_bad(read_box, (), [(line + "\n", 0)])
            self.assert_bad(read_orders, (), [(line + "\n", 0), (line + "\nlose 0\n", 0)])

    def test_boxes_at_the_limits_are_read(self):
        texts = ("box 1\n", "box 1000\n", "box" + " 1" * 10 + "\n", "box 999 1000\n", "box 10 10 20\n")
        found = [read_box(text) for text in texts]
        self.assertEqual(found, [(1,), (1000,), (1,) * 10, (999, 1000), (10, 10, 20)])

    def test_lines_of_losses(self):
        for line in (
            "lost ", "lost  0", "lost 0 ", " lost", "lost\t0", "lost 0\t1", "lost 0  1", "lost 0\r", "Lost", "loss 0", "lose 0",
            "lost 3", "lost 0 0", "lost 1 0", "lost 0 3", "lost 00", "lost 01", "lost +0", "lost -0", "lost -1", "lost x",
            "lost 0 1 2 2", "lost 0,1", "lost None", "lost \u0661", "box 1", "0", "", "lost " + "0" * 5000,
        ):
            self.assert_bad(read_loss, (BOX,), [(line + "\n", 0)])

    def test_losses_at_the_limits_are_read(self):
        found = [read_loss(BOX, text) for text in ("lost\n", "lost 0\n", "lost 2\n", "lost 0 1 2\n")]
        self.assertEqual(found, [(), (0,), (2,), (0, 1, 2)])
        self.assertEqual(read_loss(TEN_HEAVY, "lost 0 1 2 3 4 5 6 7 8 9\n"), tuple(range(10)))
        self.assertEqual(error_of(read_loss, TEN_HEAVY, "lost 10\n"), (BadLine, 0))

    def test_a_second_line(self):
        for second in ("box 1", "lost", "lose 0", "", " ", "x"):
            self.assert_bad(read_box, (), [(f"box 1\n{second}\n", 1), (f"x\n{second}\n", 0), (f"box 1\n{second}\nx\n", 1)])
            self.assert_bad(read_loss, (BOX,), [(f"lost\n{second}\n", 1), (f"lost 3\n{second}\n", 0)])
        self.assert_bad(read_orders, (), [("box 1\nbox 1\n", 1), ("box 1\nlose 0\nbox 1\nx\n", 2), ("box 1\nlost\n", 1)])

    def test_lines_of_orders(self):
        for line in (
            "lose", "lose ", "lose  0", "lose 0 ", " lose 0", "lose\t0", "lose 0\r", "lose 0 1", "Lose 0", "loses 0",
            "lose 2", "find 2", "weigh 10001", "lose -1", "lose +0", "lose 00", "weigh 01", "weigh -0", "weigh +5",
            "weigh 5 ", "weigh  5", "weigh\t5", "weigh", "weigh x", "weigh 5.0", "weigh 100000", "find", "find 0 0", "",
            "lost 0", "undo", "0", "0 lose", "weigh \u0665", "weigh " + "9" * 5000, "weigh " + "0" * 5000, "reach",
        ):
            self.assert_bad(read_orders, (), [
                (f"box 1 2\n{line}\n", 1), (f"box 1 2\n{line}\n\nx\n", 1), (f"box 1 2\nlose 1\nweigh 10000\n{line}\nx\n", 3),
                (f"box 2 1\n{line}\n", 0),
            ])

    def test_orders_at_the_limits_are_read(self):
        text = "box 1 2\nlose 0\nlose 1\nfind 0\nfind 1\nweigh 0\nweigh 10000\n"
        orders = (("lose", 0), ("lose", 1), ("find", 0), ("find", 1), ("weigh", 0), ("weigh", 10000))
        self.assertEqual(read_orders(text), ((1, 2), orders))

    def test_a_wrong_line_before_the_two_hundred_and_first_order(self):
        text = "box 1\n" + "weigh 0\n" * 199
        self.assert_bad(read_orders, (), [
            (text + "x\nweigh 0\nweigh 0\n", 200), (text + "weigh 0\nx\n", 201), (text + "weigh 0\n" * 9, 201),
        ])

    def test_a_wrong_box_comes_before_a_wrong_text(self):
        for text in (None, "", "lost 9\n", "lost"):
            self.assertEqual(error_of(read_loss, (2, 1), text), (BadBox, 1))
            self.assertEqual(error_of(read_loss, (), text), (BadBox, None))


class WrongOrdersTest(unittest.TestCase):
    WRONG = (
        ((("lose", 3),), 0), ((("lose", -1),), 0), ((("find", 3),), 0), ((("weigh", -1),), 0), ((("weigh", 10001),), 0),
        ((("lose", True),), 0), ((("find", False),), 0), ((("weigh", True),), 0), ((("lose", "0"),), 0),
        ((("weigh", None),), 0), ((("lose", (0,)),), 0), ((("weigh", [0]),), 0), ((("weigh", {}),), 0),
        ((("Lose", 0),), 0), ((("", 0),), 0), ((("lost", 0),), 0), (((None, 0),), 0), (((0, "lose"),), 0),
        ((([], 0),), 0), ((({}, 0),), 0), (((True, 0),), 0), (((("lose",), 0),), 0), ((["lose", 0],), 0), (("lose",), 0),
        ((("lose",),), 0), ((("lose", 0, 0),), 0), (((),), 0), ((None,), 0), ((1,), 0), (({"lose": 0},), 0),
        (("lose", 0), 0), ((("lose", 0), ("lose", 2), ("lose", 3)), 2), ((("lose", 0), None, ("x", 1)), 1),
        ((("weigh", 0),) * 199 + (("weigh", 10001),), 199), ((None,) * 201, None), ((("weigh", 0),) * 201, None),
        ([("lose", 0)], None), ({}, None), ("", None), ("lose 0", None),
    )

    def test_the_first_thing_that_is_no_order(self):
        for function in (orders_text, tale):
            for orders, index in self.WRONG + tuple((value, None) for value in NO_TUPLES):
                self.assertEqual(error_of(function, BOX, orders), (BadOrders, index), (function, orders))

    def test_right_orders_may_not_be_doable(self):
        for function in (orders_text, tale):
            for orders in ((), (("find", 2),), (("lose", 2),) * 2, (("weigh", 10000),), (("weigh", 0),) * 200):
                self.assertIsNone(error_of(function, BOX, orders), orders)

    def test_a_wrong_box_comes_first(self):
        for function in (orders_text, tale):
            self.assertEqual(error_of(function, (2, 1), None), (BadBox, 1))
        self.assertEqual(error_of(loss_text, (2, 1), None), (BadBox, 1))
        self.assertEqual(error_of(loss_text, BOX, (3,)), (BadLoss,))


def tale_by_hand(box, orders):
    bench, told = Bench(box), ""
    for word, number in orders:
        told += f"{word} {number}: "
        try:
            if word == "lose":
                bench.lose(number)
                told += f"reach {bench.reach}"
            elif word == "find":
                bench.find(number)
                told += f"reach {bench.reach}"
            elif number == 0:
                told += "nothing"
            else:
                told += " + ".join(map(str, bench.weigh(number)))
        except BadStep:
            told += "not weighed" if word == "weigh" else "not done"
        told += "\n"
    return told


class TaleTest(unittest.TestCase):
    def test_against_a_bench_led_by_hand(self):
        picked = random.Random(2)
        for box in BOXES:
            for many in (0, 1, 5, 40, 200):
                orders = picked_orders(picked, box, many)
                self.assertEqual(tale(box, orders), tale_by_hand(box, orders), (box, orders))

    def test_no_orders(self):
        self.assertEqual([tale((1,), ()), tale(TEN_HEAVY, ())], ["", ""])

    def test_steps_that_cannot_be_done(self):
        orders = (("find", 0), ("lose", 0), ("lose", 0), ("find", 0), ("find", 0))
        lines = "find 0: not done\nlose 0: reach 0\nlose 0: not done\nfind 0: reach 1\nfind 0: not done\n"
        self.assertEqual(tale((1,), orders), lines)

    def test_weights_are_told_heaviest_first(self):
        self.assertEqual(tale(BOX, (("weigh", 7), ("weigh", 4))), "weigh 7: 4 + 2 + 1\nweigh 4: 4\n")
        self.assertEqual(tale(TEN_HEAVY, (("weigh", 10000),)), "weigh 10000: " + " + ".join(["1000"] * 10) + "\n")
        self.assertEqual(tale((3, 3, 4), (("weigh", 6), ("weigh", 11))), "weigh 6: not weighed\nweigh 11: not weighed\n")

    def test_load_0_behind_every_loss(self):
        self.assertEqual(tale((1,), (("weigh", 0), ("lose", 0), ("weigh", 0), ("weigh", 1))),
                         "weigh 0: nothing\nlose 0: reach 0\nweigh 0: nothing\nweigh 1: not weighed\n")


if __name__ == "__main__":
    unittest.main()
