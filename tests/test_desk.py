import random
import unittest

from hookcarts.carts import cart_of
from hookcarts.desk import Desk
from hookcarts.errors import Fixed, Loose, Missing, NoCommand, NoPlace, Nothing
from hookcarts.heaps import Heap
from hookcarts.notation import deed_text, heap_text, train_text
from hookcarts.yard import Yard
from tests.things import GREAT, some_heaps
from tests.yards import PlainYard, some_deed

AB, BA, TURN = cart_of("a", "b"), cart_of("b", "a"), cart_of("a", "b", turns=True)
HEAP = Heap({AB: 2, BA: 2, TURN: 2})
SIXTY = 10 ** 60 - 1


class DeskTest(unittest.TestCase):
    def assert_lines(self, desk, lines):
        """Check what a desk answers to each line, in their order."""
        for line, told in lines:
            answer = desk.execute(line)
            self.assertEqual([line, answer], [line, told])
            self.assertIs(type(answer), str)

    def assert_error(self, desk, line, error, told=None):
        with self.assertRaises(error) as caught:
            desk.execute(line)
        self.assertIs(type(caught.exception), error)
        if told is not None:
            self.assertEqual(list(vars(caught.exception).values()), [told])

    def test_deeds(self):
        self.assert_lines(Desk(HEAP), [
            ("lay 1 a>b b>a", "done"), ("lay 1 a>b; 1 b-a a-b", "done"), ("trains", "2"), ("train 1", "1 a>b; 1 b-a a-b"),
            ("free", "1 b>a"), ("put 10 c-d", "done"), ("free", "1 b>a; 10 c-d"), ("out 10 c-d", "done"), ("free", "1 b>a"),
            ("join 0 1", "done"), ("trains", "1"), ("train 0", "1 a>b b>a; 1 a>b; 1 b-a a-b"), ("cut 0 4", "done"),
            ("train 0", "1 a>b b>a; 1 a>b; 1 b-a"), ("train 1", "1 a-b"), ("turn 1", "done"), ("train 1", "1 b-a"),
            ("standing", "1 a>a; 1 a-b; 1 b>a"), ("pieces", "3"), ("fewest", "1"), ("back", "done"), ("train 1", "1 a-b"),
            ("back", "done"), ("trains", "1"), ("again", "done"), ("trains", "2"), ("loose 0", "done"), ("trains", "1"),
            ("free", "2 a>b; 1 a-b; 2 b>a"),
        ])

    def test_an_empty_yard(self):
        desk = Desk(Heap({}))
        self.assert_lines(desk, [("free", "none"), ("standing", "none"), ("pieces", "0"), ("fewest", "0"), ("trains", "0"),
                                 ("advice", "none")])
        self.assert_error(desk, "back", Nothing)
        self.assert_error(desk, "again", Nothing)
        self.assert_error(desk, "train 0", NoPlace, 0)

    def test_no_free_carts(self):
        desk = Desk(Heap({AB: 1}))
        self.assert_lines(desk, [("advice", "none"), ("lay 1 a>b", "done"), ("free", "none"), ("standing", "1 a>b"),
                                 ("advice", "none"), ("pieces", "1")])

    def test_great_numbers(self):
        desk = Desk(Heap({AB: GREAT, BA: GREAT}))
        self.assert_lines(desk, [("pieces", str(2 * GREAT)), (f"lay {GREAT - 1} a>b b>a", "done"), ("free", "1 a>b; 1 b>a"),
                                 (f"cut 0 {GREAT}", "done"), ("train 0", f"{GREAT // 2} a>b b>a"), ("pieces", "4"),
                                 (f"put {SIXTY} c>d", "done"), ("fewest", str(SIXTY + 1)), ("pieces", str(SIXTY + 4))])
        self.assert_error(desk, f"put {SIXTY + 1} c>d", NoCommand)

    def test_advice(self):
        desk = Desk(Heap({AB: 1, TURN: 1}))
        self.assertIn(desk.execute("advice"), ["lay 1 a>b, then lay 1 b-a, then join 0 1", "lay 1 b-a, then lay 1 a>b, then join 0 1"])
        for heap in some_heaps(20, ["a", "b", "c"], 5, [1, 2]):
            desk, yard = Desk(heap), Yard(heap)
            while yard.advice():
                text = desk.execute("advice")
                self.assertEqual(text, ", then ".join(deed_text(deed) for deed in yard.advice()))
                yard.do_all(yard.advice())
                for line in text.split(", then "):
                    self.assertEqual(desk.execute(line), "done")
            self.assertEqual(desk.execute("advice"), "none")
            self.assertEqual(desk.execute("pieces"), desk.execute("fewest"))

    def test_errors_of_the_yard(self):
        desk = Desk(HEAP)
        desk.execute("lay 1 a>b")
        desk.execute("lay 1 a-b")
        for line, error, told in [("out 2 a>b", Missing, AB), ("out 1 c>c", Missing, ("c", "c", False)),
                                  ("lay 2 a>b b>a", Missing, AB), ("join 2 0", NoPlace, 2), ("join 0 0", NoPlace, 0),
                                  ("join 1 0", Loose, None), ("join 0 1", Loose, None), ("cut 0 1", NoPlace, 1),
                                  (f"cut {SIXTY} 1", NoPlace, SIXTY), ("turn 0", Fixed, 0), ("turn 2", NoPlace, 2),
                                  ("loose 7", NoPlace, 7), ("again", Nothing, None), ("train 2", NoPlace, 2),
                                  (f"train {SIXTY}", NoPlace, SIXTY)]:
            self.assert_error(desk, line, error, told)
        self.assert_lines(desk, [("free", "1 a>b; 1 a-b; 2 b>a"), ("trains", "2"), ("back", "done"), ("back", "done")])
        self.assert_error(desk, "back", Nothing)

    def test_no_commands(self):
        desk = Desk(HEAP)
        desk.execute("lay 1 a>b")
        for line in ["", " ", "free ", " free", "Free", "FREE", "free\n", "free free", "frees", "fre", "standing ", "pieces 1",
                     "fewest\t", "trains 0", "trains ", "train", "train ", "train  0", "train 00", "train 01", "train -1",
                     "train +0", "train 0 ", " train 0", "train 0 0", "train x", "train 0.0", "Train 0", "train\t0", "train0",
                     f"train {SIXTY + 1}", "advice 1", "advices", "back 1", "back ", "backs", "again ", "again again",
                     "put", "put 1", "put 0 a>b", "put 1 b-a", "put 1 a>b ", "out a>b 1", "lay", "lay a>b", "lay 1 a>b a>b",
                     "join 0", "join 0 1 2", "cut 0 0", "turn", "turn -1", "loose", "loose x", "log", "copied", "do put 1 a>b",
                     "none", "done", "quit", "help", "1", "a>b", "1 a>b", "; ", "x" * 4000, " " * 4000, "put " * 1000,
                     "back; again", "free, then trains", "\x00", "train 0\n"]:
            with self.subTest(line=line[:40]):
                self.assert_error(desk, line, NoCommand)
        self.assert_lines(desk, [("free", "1 a>b; 2 a-b; 2 b>a"), ("trains", "1"), ("back", "done"), ("trains", "0")])

    def test_long_lines(self):
        train = "; ".join(["1 a>b", "1 b>a"] * 240)
        desk = Desk(Heap({AB: GREAT, BA: GREAT}))
        self.assertGreater(len(train), 3300)
        self.assert_lines(desk, [(f"lay {train}", "done"), ("train 0", train), ("cut 0 240", "done"), ("trains", "2"),
                                 ("join 0 1", "done"), ("train 0", train)])
        row = " ".join(["a>b b>a"] * 490)
        self.assert_lines(desk, [(f"lay 1 {row}", "done"), ("train 1", f"1 {row}")])

    def test_two_desks(self):
        one, other = Desk(HEAP), Desk(HEAP)
        one.execute("lay 1 a>b")
        self.assertEqual([one.execute("trains"), other.execute("trains")], ["1", "0"])

    def test_a_desk_does_what_a_yard_does(self):
        source = random.Random(31)
        for heap in some_heaps(12, ["a", "b", "c"], 6, [1, 2, 5]):
            desk, yard, plain = Desk(heap), Yard(heap), PlainYard(heap)
            for _ in range(60):
                deed = some_deed(source, plain)
                expected = plain.expected(deed)
                if expected is None:
                    plain.do(deed)
                    yard.do(deed)
                    self.assertEqual(desk.execute(deed_text(deed)), "done")
                else:
                    self.assert_error(desk, deed_text(deed), expected[0], expected[1])
                self.assert_lines(desk, [
                    ("free", heap_text(yard.free()) or "none"), ("standing", heap_text(yard.standing()) or "none"),
                    ("pieces", str(yard.pieces())), ("trains", str(len(yard.trains()))),
                    *[(f"train {index}", train_text(train)) for index, train in enumerate(yard.trains())]])
            self.assertEqual(desk.execute("fewest"), str(yard.fewest()))

    def test_the_example_of_the_document(self):
        desk = Desk(Heap({cart_of("a", "b"): 2, cart_of("a", "b", turns=True): 1}))
        lines = ["fewest", "lay 1 a>b b-a", "standing", "fewest", "pieces", "lay 1 a>b", "join 0 1", "train 0", "advice",
                 "back", "trains"]
        told = ["1", "done", "1 a>a; 1 a>b", "1", "2", "done", "done", "1 a>b b-a; 1 a>b", "none", "done", "2"]
        self.assertEqual([desk.execute(line) for line in lines], told)
