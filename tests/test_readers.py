import random
import unittest

from hookcarts.carts import cart_of, end_of, steps_of
from hookcarts.errors import NoText
from hookcarts.heaps import Heap
from hookcarts.notation import cart_text, deed_text, heap_text, row_text, step_text, train_text
from hookcarts.readers import read_cart, read_deed, read_heap, read_row, read_step, read_train
from hookcarts.trains import trains
from tests.things import GREAT, all_carts, has_twice, some_heaps
from tests.yards import DEEDS

AB, BA, TURN = cart_of("a", "b"), cart_of("b", "a"), cart_of("a", "b", turns=True)
SIXTY = 10 ** 60 - 1
CARTS = [*all_carts(["a", "b", "abcdefgh", "zz"]), ("q", "q", True)]
READERS = [read_cart, read_step, read_row, read_train, read_heap, read_deed]
# No reader takes one of these.
NEVER = [" ", "a", "-", ">", "a-", "-b", "a>", ">b", "ab", "a b", "a->b", "a>-b", "a--b", "a>>b", "a-b-c", "a>b>c", "a-b>c",
         "A>b", "a>B", "a1>b", "a>b1", "a.b", "a_b", "a=b", "a<b", "abcdefghi>a", "a>abcdefghi", " a>b", "a>b ", "a >b",
         "a> b", "\ta>b", "a>b\n", "\na>b", "a>b\r", "a>b\x00", "none", "1", "0", "1 ", " 1", "1 a", "1 a>", "1  a>b",
         " 1 a>b", "1 a>b ", "01 a>b", "+1 a>b", "-1 a>b", "1.0 a>b", "1e3 a>b", "0 a>b", "00 a>b", "1_0 a>b", "0x1 a>b",
         "x a>b", "1\ta>b", "1 a>b;", "1 a>b; ", "; 1 a>b", ";", "; ", "a>b; ", "1 a>b\n", "1" * 61 + " a>b", "a>b 1",
         "1,000 a>b", "one a>b", "True a>b", "1 A>b", "1a>b"]


class ReadersTest(unittest.TestCase):
    def assert_no_text(self, reader, text, index):
        with self.assertRaises(NoText) as caught:
            reader(text)
        self.assertEqual([caught.exception.index, type(caught.exception.index)], [index, int])

    def test_what_is_never_written(self):
        for reader in READERS:
            for text in NEVER:
                with self.subTest(reader=reader.__name__, text=text):
                    with self.assertRaises(NoText) as caught:
                        reader(text)
                    if reader in (read_cart, read_step, read_deed):
                        self.assertEqual(caught.exception.index, 0)

    def test_the_empty_string(self):
        for reader in READERS:
            if reader == read_heap:
                self.assertEqual(reader(""), Heap({}))
            else:
                self.assert_no_text(reader, "", 0)

    def test_carts(self):
        for cart in CARTS:
            told = read_cart(cart_text(cart))
            self.assertEqual(told, cart)
            self.assertEqual([type(told), type(told[2])], [tuple, bool])
        # One that turns is written with the lesser kind as its front.
        for text in ["b-a", "zz-abcdefgh", "ab-aa", "a>b a>b", "1 a>b"]:
            self.assert_no_text(read_cart, text, 0)

    def test_steps(self):
        for cart in CARTS:
            for step in steps_of(cart):
                told = read_step(step_text(step))
                self.assertEqual(told, step)
                self.assertEqual([type(told), type(told[1])], [tuple, bool])
        self.assertEqual(read_step("b-a"), (TURN, True))
        self.assertEqual(read_step("b>a"), (BA, False))
        self.assertEqual(read_step("c-c"), (("c", "c", True), False))
        self.assert_no_text(read_step, "a>b b>a", 0)

    def test_rows(self):
        self.assertEqual(read_row("a>b"), [(AB, False)])
        self.assertEqual(read_row("a>b b-a a-b"), [(AB, False), (TURN, True), (TURN, False)])
        for text, index in [("a>b a>b", 1), ("a>b b>c c-d c-d", 3), ("a>b b>a x", 2), ("x a>b", 0), ("a>b  b>a", 1),
                            (" a>b", 0), ("a>b ", 1), ("a>b b>a ", 2), ("", 0), (" ", 0), ("a>b b>a; b>a", 1),
                            ("a>b B>a b>a", 1), ("a>b a>b x", 1), ("a>b x a>b", 1), ("1 a>b", 0), ("a>b\nb>a", 0),
                            ("a>b,b>a", 0)]:
            self.assert_no_text(read_row, text, index)

    def test_long_rows(self):
        row = [(TURN, False), (TURN, True)] * 450
        self.assertEqual(read_row(row_text(row)), row)
        self.assert_no_text(read_row, row_text(row) + " b-a", 900)
        self.assert_no_text(read_row, "a" * 4000, 0)
        self.assert_no_text(read_row, " " * 4000, 0)
        self.assert_no_text(read_row, "a>a " * 1000, 1000)

    def test_trains(self):
        self.assertEqual(read_train("1 a>b"), [(1, [(AB, False)])])
        told = [(2, [(AB, False), (BA, False)]), (1, [(AB, False)])]
        self.assertEqual(read_train("2 a>b b>a; 1 a>b"), told)
        # A train is read with just the parts that are written.
        self.assertEqual(read_train("1 a>b; 1 b>a; 1 a>b"), [(1, [(AB, False)]), (1, [(BA, False)]), (1, [(AB, False)])])
        self.assertEqual(read_train(f"{SIXTY} a>b b>a"), [(SIXTY, [(AB, False), (BA, False)])])
        for text, index in [("2 a>b", 0), ("1 a>b; 1 a>b", 1), ("1 a>b; 2 b>a", 1), ("1 a>b; 1 b>a; 0 a>b", 2),
                            ("1 a>b; 1 b>a; 1 a>b b>c; 1 c-c; 1 b-c", 4), ("1 a>b a>b", 0), ("1 a>b; 1 b>a a>b; x", 2),
                            ("1 a>b;1 b>a", 0), ("1 a>b;  1 b>a", 1), ("1 a>b ; 1 b>a", 0), ("1 a>b; ", 1), ("; 1 a>b", 0),
                            ("1 a>b; ; 1 b>a", 1), ("1 a>b; 01 b>a", 1), ("a>b", 0), ("1", 0), ("1 ", 0),
                            ("1 a>b; 1 a>b; x", 1), (f"1 a>a; {10 * SIXTY} a>a", 1), (f"{SIXTY + 1} a>b b>a", 0),
                            ("1 a>b, 1 b>a", 0), ("1 a>b; 1 b>a b>a", 1), ("3 a>b b>c; 1 c>a", 0)]:
            self.assert_no_text(read_train, text, index)

    def test_long_trains(self):
        train = [(7, [(TURN, False), (TURN, True)]), (1, [(AB, False)]), (1, [(BA, False)])] * 120
        self.assertGreater(len(train_text(train)), 2900)
        self.assertEqual(read_train(train_text(train)), train)
        self.assertFalse(has_twice(read_train(train_text(train))))
        self.assert_no_text(read_train, train_text(train) + "; 1 b>a", 360)

    def test_trains_of_heaps(self):
        for heap in some_heaps(40, ["a", "b", "c", "d", "e"], 10, [1, 2, 7, GREAT]):
            self.assertEqual(read_heap(heap_text(heap)), heap)
            for _, train in trains(heap):
                self.assertEqual(read_train(train_text(train)), train)

    def test_heaps(self):
        self.assertEqual(read_heap("7 a>b"), Heap({AB: 7}))
        self.assertEqual(read_heap(f"20 a>b; {SIXTY} a-b; 1 b>a"), Heap({AB: 20, TURN: SIXTY, BA: 1}))
        for text, index in [("1 a-b; 1 a>b", 1), ("1 a>b; 1 a>b", 1), ("1 b>a; 1 a>b", 1), ("1 a>b; 2 a-b; 3 a-b", 2),
                            ("0 a>b", 0), ("1 a>b; 0 a-b", 1), ("1 b-a", 0), ("1 a>b; 1 b-a", 1), ("1 a>b; x", 1), ("1", 0),
                            ("a>b", 0), ("1 a>b; ", 1), ("; 1 a>b", 0), ("1 a>b;1 b>a", 0), ("1 a>b;  1 b>a", 1),
                            ("1 a>b; 02 b>a", 1), ("1 a>b b>a", 0), (f"1 a>b; {SIXTY + 1} b>a", 1), (" ", 0), ("none", 0),
                            ("1 b>c; 1 b>d; 1 a>a; x", 2), ("1 a>b; 1 b>a; 1 ba>a; 1 b>a", 3)]:
            self.assert_no_text(read_heap, text, index)

    def test_long_heaps(self):
        kinds = [one + other for one in "abcdefgh" for other in "abcde"]
        heap = Heap({cart_of(one, other): 7 for one in kinds for other in kinds[:10]})
        self.assertGreater(len(heap_text(heap)), 3500)
        self.assertEqual(read_heap(heap_text(heap)), heap)

    def test_deeds(self):
        for deed in DEEDS:
            told = read_deed(deed_text(deed))
            self.assertEqual(told, deed)
            self.assertIs(type(told), tuple)
        self.assertEqual(read_deed("put 3 a-b"), ("put", TURN, 3))
        self.assertEqual(read_deed("lay 1 a>b; 2 b-a a-b"), ("lay", [(1, [(AB, False)]), (2, [(TURN, True), (TURN, False)])]))
        self.assertEqual(read_deed("join 0 0"), ("join", 0, 0))
        self.assertEqual(read_deed(f"cut {SIXTY} {SIXTY}"), ("cut", SIXTY, SIXTY))

    def test_no_deeds(self):
        for text in ["put", "put ", "put 1", "put a>b", "put a>b 1", "put 0 a>b", "put 01 a>b", "put 1 b-a", "put 1  a>b",
                     "put 1 a>b ", " put 1 a>b", "put  1 a>b", "put 1 a>b 1", "put -1 a>b", "put +1 a>b", "Put 1 a>b",
                     "put 1 a>b; 1 b>a", f"put {SIXTY + 1} a>b", "out", "out 0 a>b", "out 1 a", "lay", "lay ", "lay a>b",
                     "lay 1 a>b a>b", "lay 2 a>b", "lay 1 a>b; 1 a>b", "lay 1 a>b; ", "lay  1 a>b", "lay 1 a>b;1 b>a",
                     "lay 0 a>b", "join", "join 0", "join 0 1 2", "join 0 01", "join 00 1", "join 0  1", "join -1 0",
                     "join a b", "join 0 1 ", "join 0,1", "cut 0 0", "cut 0", "cut 0 1 1", "cut 00 1", "cut -0 1", "turn",
                     "turn ", "turn 0 0", "turn 00", "turn -1", "turn x", "turn 0 ", " turn 0", "loose", "loose 01",
                     "loose 1 1", f"loose {SIXTY + 1}", "loose\t0", "turn\n0", "back", "again", "free", "train 0", "advice",
                     "none", "done", "lay " + "a" * 3990, "turn " + "0" * 3990]:
            self.assert_no_text(read_deed, text, 0)

    def test_changed_texts(self):
        """A text that is changed at one place is read as what is written so, or not at all."""
        source = random.Random(11)
        written = [(read_cart, cart_text), (read_step, step_text), (read_row, row_text), (read_train, train_text),
                   (read_heap, heap_text), (read_deed, deed_text)]
        texts = ["a-b", "b-a", "a>b b>a a-b b-c", "2 a>b b>a; 1 a>b; 1 b-b", "1 a>b; 20 a-b; 1 b>a", "put 10 a>b",
                 "lay 2 a>b b>a; 1 a>b", "join 0 10", "cut 1 20", "turn 0", "loose 3"]
        read = 0
        for _ in range(4000):
            text = source.choice(texts)
            at = source.randrange(len(text) + 1)
            text = text[:at] + source.choice(["", *"ab->; 012xA\n"]) + text[at + source.choice([0, 1]):]
            for reader, writer in written:
                try:
                    thing = reader(text)
                except NoText:
                    continue
                read += 1
                self.assertEqual(writer(thing), text)
        self.assertGreater(read, 500)

    def test_rows_that_go_on(self):
        source = random.Random(12)
        for _ in range(200):
            row = [source.choice(steps_of(source.choice(CARTS)))]
            for _ in range(source.randrange(6)):
                row.append(source.choice(steps_of(source.choice(CARTS))))
            loose = [index for index in range(1, len(row)) if end_of(row[index - 1]) != step_text(row[index]).replace(
                ">", "-").split("-")[0]]
            text = " ".join(step_text(step) for step in row)
            if loose:
                self.assert_no_text(read_row, text, loose[0])
            else:
                self.assertEqual(read_row(text), row)
