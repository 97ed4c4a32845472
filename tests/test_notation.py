import unittest

from hookcarts.carts import cart_of
from hookcarts.heaps import Heap
from hookcarts.notation import cart_text, deed_text, heap_text, row_text, step_text, train_text
from tests.things import GREAT

AB, BA, TURN = cart_of("a", "b"), cart_of("b", "a"), cart_of("a", "b", turns=True)
LONG = cart_of("zzzzzzzz", "abcdefgh", turns=True)


class NotationTest(unittest.TestCase):
    def test_carts(self):
        told = [(AB, "a>b"), (BA, "b>a"), (TURN, "a-b"), (("c", "c", True), "c-c"), (("c", "c", False), "c>c"),
                (LONG, "abcdefgh-zzzzzzzz"), (("hook", "bar", False), "hook>bar")]
        for cart, text in told:
            self.assertEqual(cart_text(cart), text)

    def test_steps(self):
        told = [((AB, False), "a>b"), ((BA, False), "b>a"), ((TURN, False), "a-b"), ((TURN, True), "b-a"),
                ((LONG, True), "zzzzzzzz-abcdefgh"), ((("c", "c", True), False), "c-c"), ((("c", "c", False), False), "c>c")]
        for step, text in told:
            self.assertEqual(step_text(step), text)

    def test_rows(self):
        self.assertEqual(row_text([(AB, False)]), "a>b")
        self.assertEqual(row_text([(AB, False), (TURN, True), (TURN, False)]), "a>b b-a a-b")
        self.assertEqual(row_text([(TURN, False), (TURN, True)] * 450), " ".join(["a-b b-a"] * 450))

    def test_trains(self):
        self.assertEqual(train_text([(1, [(AB, False)])]), "1 a>b")
        self.assertEqual(train_text([(2, [(AB, False), (BA, False)]), (1, [(AB, False)])]), "2 a>b b>a; 1 a>b")
        self.assertEqual(train_text([(GREAT, [(AB, False), (TURN, True)])]), "1000000000000000000000000000000 a>b b-a")
        many = train_text([(10, [(TURN, False), (TURN, True)])] * 300)
        self.assertEqual(many, "; ".join(["10 a-b b-a"] * 300))

    def test_heaps(self):
        self.assertEqual(heap_text(Heap({})), "")
        self.assertEqual(heap_text(Heap({AB: 7})), "7 a>b")
        self.assertEqual(heap_text(Heap({TURN: GREAT, BA: 1, AB: 20})), f"20 a>b; {GREAT} a-b; 1 b>a")

    def test_deeds(self):
        told = [(("put", AB, 3), "put 3 a>b"), (("out", TURN, GREAT), f"out {GREAT} a-b"), (("join", 0, 12), "join 0 12"),
                (("lay", [(2, [(TURN, True), (TURN, False)]), (1, [(BA, False)])]), "lay 2 b-a a-b; 1 b>a"),
                (("cut", 3, GREAT), f"cut 3 {GREAT}"), (("turn", 0), "turn 0"), (("loose", 10), "loose 10")]
        for deed, text in told:
            self.assertEqual(deed_text(deed), text)

    def test_nothing_is_changed(self):
        train = [(2, [(TURN, True), (TURN, False)])]
        deed_text(("lay", train))
        self.assertEqual(train, [(2, [(TURN, True), (TURN, False)])])
