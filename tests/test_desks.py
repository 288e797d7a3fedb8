import random
import unittest

from lostweights.benches import Bench
from lostweights.desks import Desk
from lostweights.errors import BadBox, BadLine, BadStep
from lostweights.losses import weigh
from lostweights.texts import read_orders, tale
from plain import all_sums, boxes_up_to, plain_lots, plain_reach, rest_of
from values import ANY_VALUES, error_of

TEN_DOUBLES = (1, 2, 4, 8, 16, 32, 64, 128, 256, 512)
TEN_HEAVY = (1000,) * 10
BOXES = [(1,), (1000,), (1, 1), (1, 2, 4), (3, 3, 4), (1, 1, 2, 3, 5, 8), (1,) * 10, TEN_DOUBLES]

# What no line of an order or a question looks like, for a box of three weights.
WRONG_LINES = (
    "", " ", "\n", "lose", "lose ", "lose 3", "lose -1", "lose 01", "lose +1", "lose 1 ", " lose 1", "lose  1", "lose\t1",
    "lose 1\n", "lose 1\r", "lose 1\nlose 2", "lose 1 2", "lose1", "Lose 1", "LOSE 1", "lose one", "lose 1.0", "lose \u0661",
    "lose \u00b2", "lose " + "9" * 5000, "lose 00", "find 3", "find", "find 1\n", "find -0", "weigh", "weigh ", "weigh 10001",
    "weigh 99999", "weigh 007", "weigh -1", "weigh 1 1", "weigh 1\n", "weigh " + "1" * 5000, "weigh 1_0", "reach 1", "reach ",
    " reach", "reach\n", "Reach", "least 0", "least ", "least\n", "lost 0", "lost ", "lost\n", "lost none", "ways", "ways ",
    "ways 10001", "ways 99999", "ways -1", "ways 01", "ways 1 2", "ways 1\n", "ways\n1", "ways " + "1" * 5000, "undo", "text",
    "box 1 2 4", "done", "none", "nothing", "0", "1", "left", "lose 1: reach 1",
)


def desk_of(box, *lines):
    desk = Desk(box)
    for line in lines:
        desk.do(line)
    return desk


class ExamplesTest(unittest.TestCase):
    def test_examples_of_the_interface(self):
        desk = Desk((1, 2, 4))
        found = [desk.do("lose 1"), desk.do("weigh 5"), desk.do("reach"), desk.do("least"), desk.do("lost")]
        found += [desk.do("ways 5"), desk.text(), desk.undo(), desk.do("lost"), desk.do("reach")]
        self.assertEqual(found, ["done", "4 + 1", "1", "2", "1", "1", "box 1 2 4\nlose 1\n", None, "none", "7"])
        self.assertEqual(error_of(desk.do, "lose 3"), (BadLine, 0))


class WalksTest(unittest.TestCase):
    def assert_as_behind(self, desk, box, loss, steps):
        rest = rest_of(box, loss)
        self.assertEqual(desk.do("reach"), str(plain_reach(rest)))
        self.assertEqual(desk.do("least"), str(plain_reach(rest) + 1))
        self.assertEqual(desk.do("lost"), " ".join(str(place) for place in sorted(loss)) or "none")
        lines = ["box " + " ".join(str(weight) for weight in box)] + [f"{word} {place}" for word, place in steps]
        self.assertEqual(desk.text(), "".join(line + "\n" for line in lines))

    def assert_answers_for(self, desk, box, loss, load):
        behind = tuple(sorted(loss))
        self.assertEqual(desk.do(f"ways {load}"), str(len(plain_lots(box, behind, load))), (box, behind, load))
        weights = weigh(box, behind, load) if load <= sum(box) else None
        if weights is None:
            self.assertEqual(error_of(desk.do, f"weigh {load}"), (BadStep,), (box, behind, load))
        else:
            wanted = " + ".join(str(weight) for weight in weights) if load > 0 else "nothing"
            self.assertEqual(desk.do(f"weigh {load}"), wanted, (box, behind, load))

    def test_random_walks(self):
        picked = random.Random(21)
        for box in BOXES + boxes_up_to(3, 3):
            desk, loss, steps = Desk(box), set(), []
            for _ in range(30):
                place = picked.randrange(len(box))
                word = picked.choice(("lose", "find", "undo", "lose"))
                if word == "undo" and not steps:
                    self.assertEqual(error_of(desk.undo), (BadStep,))
                elif word == "undo":
                    self.assertIsNone(desk.undo())
                    loss ^= {steps.pop()[1]}
                elif (word == "lose") == (place in loss):
                    self.assertEqual(error_of(desk.do, f"{word} {place}"), (BadStep,))
                else:
                    self.assertEqual(desk.do(f"{word} {place}"), "done")
                    loss ^= {place}
                    steps.append((word, place))
                self.assert_as_behind(desk, box, loss, steps)
                for load in [0] + [picked.randint(0, sum(box) + 2) for _ in range(2)]:
                    self.assert_answers_for(desk, box, loss, load)

    def test_each_desk_is_on_its_own(self):
        first, second = desk_of((1, 2), "lose 0"), Desk((1, 2))
        self.assertEqual([first.do("lost"), second.do("lost"), second.text()], ["0", "none", "box 1 2\n"])
        self.assertEqual(error_of(second.undo), (BadStep,))
        self.assertIsNone(first.undo())


class LinesTest(unittest.TestCase):
    def test_loads_from_0_to_10000(self):
        desk = Desk(TEN_HEAVY)
        self.assertEqual([desk.do("weigh 0"), desk.do("weigh 10000")], ["nothing", " + ".join(["1000"] * 10)])
        self.assertEqual([desk.do("ways 0"), desk.do("ways 10000"), desk.do("ways 9999"), desk.do("ways 5000")], ["1", "1", "0", "252"])
        desk.do("lose 9")
        self.assertEqual([desk.do("ways 10000"), desk.do("ways 9000"), error_of(desk.do, "weigh 10000")], ["0", "1", (BadStep,)])
        for line in ("weigh 10001", "ways 10001"):
            self.assertEqual(error_of(desk.do, line), (BadLine, 0))

    def test_ways_above_the_sum_of_the_box(self):
        desk = Desk((1, 2, 4))
        self.assertEqual([desk.do(f"ways {load}") for load in (7, 8, 9, 9999, 10000)], ["1", "0", "0", "0", "0"])
        desk.do("lose 2")
        self.assertEqual([desk.do(f"ways {load}") for load in (3, 4, 7, 8)], ["1", "0", "0", "0"])

    def test_all_lost(self):
        desk = desk_of((1, 1, 2), "lose 2", "lose 0", "lose 1")
        answers = [desk.do(line) for line in ("lost", "reach", "least", "ways 0", "ways 1", "weigh 0")]
        self.assertEqual(answers, ["0 1 2", "0", "1", "1", "0", "nothing"])
        self.assertEqual(error_of(desk.do, "weigh 1"), (BadStep,))

    def test_ten_weights(self):
        desk = Desk(TEN_DOUBLES)
        self.assertEqual([desk.do("reach"), desk.do("least"), desk.do("ways 1023")], ["1023", "1024", "1"])
        for place in range(9, -1, -1):
            desk.do(f"lose {place}")
        self.assertEqual(desk.do("lost"), "0 1 2 3 4 5 6 7 8 9")

    def test_lines_of_another_form(self):
        desk = desk_of((1, 2, 4), "lose 1")
        for line in WRONG_LINES:
            self.assertEqual(error_of(desk.do, line), (BadLine, 0), line)
            self.assertEqual((desk.do("lost"), desk.text()), ("1", "box 1 2 4\nlose 1\n"), line)
        for line in ("lose 1", "lose 9", "find 1"):
            self.assertEqual(error_of(Desk((7,)).do, line), (BadLine, 0))

    def test_values_that_are_no_strings(self):
        desk = Desk((1, 2, 4))
        for value in ANY_VALUES + (b"reach", b"lose 1", ("lose", 1), ["reach"], ("weigh", 0)):
            self.assertEqual(error_of(desk.do, value), (BadLine, 0), value)
        self.assertEqual(desk.text(), "box 1 2 4\n")

    def test_wrong_boxes(self):
        for value in ANY_VALUES:
            error = error_of(Desk, value)
            right = value == (1,) and type(value[0]) is int
            self.assertTrue(error is None if right else error[0] is BadBox, value)
        self.assertEqual([error_of(Desk, (2, 1)), error_of(Desk, [1])], [(BadBox, 1), (BadBox, None)])

    def test_errors_of_the_bench_change_nothing(self):
        desk = desk_of((3, 3, 4), "lose 1")
        for line in ("lose 1", "find 0", "find 2", "weigh 6", "weigh 11", "weigh 10000", "weigh 1"):
            self.assertEqual(error_of(desk.do, line), (BadStep,), line)
            self.assertEqual((desk.do("lost"), desk.text()), ("1", "box 3 3 4\nlose 1\n"), line)
        desk.undo()
        self.assertEqual((desk.do("lost"), error_of(desk.undo)), ("none", (BadStep,)))


class UndoTest(unittest.TestCase):
    def test_nothing_to_take_back(self):
        desk = Desk((1, 2))
        self.assertEqual(error_of(desk.undo), (BadStep,))
        for line in ("weigh 3", "reach", "least", "lost", "ways 1", "weigh 0"):
            desk.do(line)
        self.assertEqual([error_of(desk.undo), desk.text()], [(BadStep,), "box 1 2\n"])

    def test_the_last_lose_or_find_is_taken_back_whatever_was_asked_behind_it(self):
        desk = desk_of((1, 2, 4), "lose 0", "lose 2", "find 0", "weigh 2", "reach", "ways 3", "lost")
        found = []
        for _ in range(3):
            found.append((desk.do("lost"), desk.text()))
            self.assertIsNone(desk.undo())
        self.assertEqual(found, [
            ("2", "box 1 2 4\nlose 0\nlose 2\nfind 0\n"),
            ("0 2", "box 1 2 4\nlose 0\nlose 2\n"),
            ("0", "box 1 2 4\nlose 0\n"),
        ])
        self.assertEqual([desk.do("lost"), desk.text(), error_of(desk.undo)], ["none", "box 1 2 4\n", (BadStep,)])

    def test_going_on_behind_an_undo(self):
        desk = desk_of((1, 2, 4), "lose 0", "lose 1")
        desk.undo()
        desk.do("lose 2")
        desk.do("find 0")
        self.assertEqual(desk.text(), "box 1 2 4\nlose 0\nlose 2\nfind 0\n")
        desk.undo()
        self.assertEqual(desk.do("lost"), "0 2")

    def test_more_than_two_hundred_steps(self):
        desk = Desk((1, 2))
        for _ in range(150):
            desk.do("lose 1")
            desk.do("find 1")
        self.assertEqual(desk.text(), "box 1 2\n" + "lose 1\nfind 1\n" * 150)
        for _ in range(299):
            desk.undo()
        self.assertEqual([desk.text(), desk.do("lost")], ["box 1 2\nlose 1\n", "1"])
        desk.undo()
        self.assertEqual(error_of(desk.undo), (BadStep,))


class TextTest(unittest.TestCase):
    def test_text_is_read_as_orders_that_lead_a_bench_there(self):
        desk = desk_of((1, 1, 2, 3), "lose 3", "weigh 2", "lose 0", "find 3", "reach")
        box, orders = read_orders(desk.text())
        self.assertEqual((box, orders), ((1, 1, 2, 3), (("lose", 3), ("lose", 0), ("find", 3))))
        bench = Bench(box)
        for word, place in orders:
            getattr(bench, word)(place)
        self.assertEqual((" ".join(map(str, bench.lost)), str(bench.reach)), (desk.do("lost"), desk.do("reach")))

    def test_weights_are_told_as_in_a_tale(self):
        for box in ((1, 2, 4), (3, 3, 4), (1, 1, 2, 3, 5, 8)):
            for load in range(sum(box) + 2):
                told = tale(box, (("weigh", load),))
                desk = Desk(box)
                if told.endswith(": not weighed\n"):
                    self.assertEqual(error_of(desk.do, f"weigh {load}"), (BadStep,))
                else:
                    self.assertEqual(f"weigh {load}: {desk.do(f'weigh {load}')}\n", told)


if __name__ == "__main__":
    unittest.main()
