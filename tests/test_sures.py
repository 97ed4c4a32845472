import unittest

from hookcarts.carts import cart_of
from hookcarts.ends import ends
from hookcarts.errors import NoNumber
from hookcarts.fewest import fewest
from hookcarts.heaps import Heap
from hookcarts.known import Known
from hookcarts.leasts import least_fewest
from hookcarts.mosts import most_fewest
from hookcarts.sures import can_be_one, heap_with, never_odd, possible_ends, surely_odd, surely_one
from hookcarts.trains import led
from tests.things import GREAT, all_heaps, known_renamed, some_knowns, strange_values

AB, BA, TURN = cart_of("a", "b"), cart_of("b", "a"), cart_of("a", "b", turns=True)
BC, CC, DD = cart_of("b", "c", turns=True), cart_of("c", "c", turns=True), cart_of("d", "d")
KNOWN = Known({AB: (1, GREAT), TURN: (2, 5)})
SMALL = [*some_knowns(120, ["a", "b", "c", "d"], 5, 3), *some_knowns(60, ["a", "b"], 5, 3)]
NARROW = [known for known in SMALL if sum(known[cart][0] < known[cart][1] for cart in known) <= 3]
GREAT_ONES = [
    Known({AB: (0, GREAT), cart_of("b", "c"): (0, GREAT), cart_of("c", "d"): (1, GREAT), cart_of("d", "b"): (0, GREAT),
           DD: (1, 1), cart_of("a", "c", turns=True): (3, 3)}),
    Known({AB: (GREAT // 3, GREAT), BA: (7, GREAT // 2), TURN: (0, 10 ** 15), DD: (0, GREAT)}),
    Known({TURN: (1, GREAT), BC: (0, GREAT), cart_of("c", "a"): (5, GREAT), CC: (GREAT, GREAT)}),
]
NAMES = {"a": "d", "b": "a", "c": "zz", "d": "b"}


class SuresTest(unittest.TestCase):
    def assert_each_number(self, known, numbers):
        before = {cart: known[cart] for cart in known}
        for number in numbers:
            heap = heap_with(known, number)
            self.assertIs(type(heap), Heap)
            self.assertIs(known.fits(heap), True)
            self.assertEqual(fewest(heap), number)
        self.assertEqual({cart: known[cart] for cart in known}, before)

    def assert_no_number(self, known, thing):
        with self.assertRaises(NoNumber) as caught:
            heap_with(known, thing)
        self.assertIs(caught.exception.number, thing)

    def test_heap_with(self):
        self.assert_each_number(KNOWN, [1, 2, 77, GREAT // 7, GREAT - 3, GREAT - 2])
        self.assert_each_number(Known({DD: (1, GREAT)}), [1])
        self.assert_each_number(Known({DD: (0, GREAT), CC: (0, 3), AB: (1, 1)}), [1, 2, 3])

    def test_heap_with_small_numbers(self):
        different = set()
        for known in SMALL:
            numbers = {fewest(heap) for heap in all_heaps(known)}
            different.add(len(numbers))
            self.assert_each_number(known, sorted(numbers))
            for number in range(-1, max(numbers) + 3):
                if number not in numbers:
                    self.assert_no_number(known, number)
        self.assertGreater(max(different), 4)

    def test_heap_with_great_numbers(self):
        for known in GREAT_ONES:
            least, most = least_fewest(known), most_fewest(known)
            self.assertGreater(most, 10 ** 20)
            numbers = {least, least + 1, least + 12345, (least + most) // 2, most // 3 + 1, most - 1, most}
            self.assert_each_number(known, sorted(numbers))
            for number in [least - 1, most + 1, -GREAT, 0, 9 * GREAT]:
                self.assert_no_number(known, number)

    def test_no_number(self):
        # Both 1 and 0 would do as numbers of trains, but truths are none.
        for thing in [True, False, None, "1", "", b"1", [1], (1,), {1: 1}, {1}, [], *strange_values()]:
            self.assert_no_number(KNOWN, thing)
            self.assert_no_number(Known({DD: (1, 1)}), thing)
        for number in [0, -1, GREAT - 1, GREAT, GREAT ** 2]:
            self.assert_no_number(KNOWN, number)

    def test_can_be_one_and_surely_one(self):
        told = [(KNOWN, True, False), (Known({DD: (1, GREAT)}), True, True), (Known({AB: (2, GREAT)}), False, False),
                (Known({AB: (1, GREAT)}), True, False), (Known({AB: (1, 1), DD: (0, 4)}), True, False),
                (Known({AB: (1, 1), DD: (1, 4)}), False, False), (Known({TURN: (1, GREAT)}), True, True),
                (Known({TURN: (1, GREAT), AB: (0, 3)}), True, False), (Known({TURN: (1, GREAT), AB: (0, 2)}), True, True),
                (Known({TURN: (2, GREAT), AB: (0, 3)}), True, True),
                (Known({AB: (GREAT, GREAT), BA: (GREAT - 1, GREAT + 1)}), True, True)]
        for known, can, surely in told:
            expected = [min(fewest(heap) for heap in all_heaps(known)) == 1,
                        max(fewest(heap) for heap in all_heaps(known)) == 1] if known.how_many() < 99 else [can, surely]
            self.assertIs(can_be_one(known), expected[0])
            self.assertIs(surely_one(known), expected[1])
        both = set()
        for known in SMALL:
            numbers = [fewest(heap) for heap in all_heaps(known)]
            self.assertIs(can_be_one(known), min(numbers) == 1)
            self.assertIs(surely_one(known), max(numbers) == 1)
            both.add((can_be_one(known), surely_one(known)))
        self.assertEqual(len(both), 3)

    def test_odd(self):
        self.assertEqual([surely_odd(KNOWN), never_odd(KNOWN)], [[], []])
        known = Known({AB: (3, 3), BC: (GREAT, GREAT), DD: (0, GREAT), CC: (1, 7)})
        self.assertEqual([surely_odd(known), never_odd(known)], [["a", "b"], ["c", "d"]])
        known = Known({AB: (3, 3), BC: (0, 1), DD: (1, 1)})
        self.assertEqual([surely_odd(known), never_odd(known)], [["a"], ["d"]])
        known = Known({cart_of("d", "a"): (1, 1), BC: (1, 1), AB: (2, 2)})
        self.assertEqual([surely_odd(known), never_odd(known)], [["a", "b", "c", "d"], []])
        odd, even = 0, 0
        for known in SMALL:
            heaps = all_heaps(known)
            surely, never = surely_odd(known), never_odd(known)
            self.assertEqual(surely, [kind for kind in known.kinds() if all(kind in heap.odd() for heap in heaps)])
            self.assertEqual(never, [kind for kind in known.kinds() if not any(kind in heap.odd() for heap in heaps)])
            odd, even = odd + len(surely), even + len(never)
        self.assertGreater(min(odd, even), 9)

    def test_possible_ends(self):
        self.assertEqual(possible_ends(Known({DD: (1, GREAT)})), [("d", "d")])
        self.assertEqual(possible_ends(Known({AB: (1, GREAT)})), [("a", "b")])
        self.assertEqual(possible_ends(Known({AB: (2, GREAT)})), [])
        self.assertEqual(possible_ends(Known({AB: (1, GREAT), DD: (0, GREAT)})), [("a", "b")])
        self.assertEqual(possible_ends(Known({AB: (GREAT, GREAT), BA: (0, GREAT - 1)})), [("a", "b")])
        self.assertEqual(possible_ends(Known({AB: (GREAT, GREAT), BA: (0, GREAT)})),
                         [("a", "a"), ("a", "b"), ("b", "b")])
        self.assertEqual(possible_ends(Known({TURN: (1, GREAT)})), [("a", "a"), ("a", "b"), ("b", "a"), ("b", "b")])
        self.assertEqual(possible_ends(Known({DD: (0, 3), CC: (1, 1), BC: (0, 1)})), [("b", "c"), ("c", "b"), ("c", "c")])

    def test_possible_ends_of_all_heaps_that_fit(self):
        lengths = set()
        for known in NARROW:
            told = sorted({pair for heap in all_heaps(known) for pair in ends(heap)})
            self.assertEqual(possible_ends(known), told)
            lengths.add(len(told))
        self.assertGreater(len(lengths), 4)

    def test_possible_ends_of_great_numbers(self):
        known = Known({AB: (GREAT // 2, GREAT), cart_of("b", "c"): (10 ** 20, GREAT), cart_of("c", "a"): (7, GREAT),
                       DD: (1, 1), cart_of("c", "d", turns=True): (3, 3)})
        self.assertEqual(possible_ends(known), [("a", "d"), ("b", "d"), ("c", "d"), ("d", "a"), ("d", "b"), ("d", "c")])
        heap = Heap({AB: GREAT // 2, cart_of("b", "c"): GREAT // 2, cart_of("c", "a"): GREAT // 2, DD: 1,
                     cart_of("c", "d", turns=True): 3})
        self.assertIs(known.fits(heap), True)
        self.assertIsNotNone(led(heap, "c", "d"))

    def test_kinds_exchanged(self):
        for known in NARROW[:60]:
            renamed = known_renamed(known, NAMES)
            self.assertEqual(possible_ends(renamed), sorted((NAMES[one], NAMES[two]) for one, two in possible_ends(known)))
            self.assertEqual(surely_odd(renamed), sorted(NAMES[kind] for kind in surely_odd(known)))
            self.assertEqual(never_odd(renamed), sorted(NAMES[kind] for kind in never_odd(known)))
            self.assertIs(can_be_one(renamed), can_be_one(known))

    def test_front_and_back_exchanged(self):
        for known in NARROW[:60]:
            about = Known({cart if cart[2] else cart_of(cart[1], cart[0]): known[cart] for cart in known})
            self.assertEqual(possible_ends(about), sorted((last, first) for first, last in possible_ends(known)))

    def test_results_are_new(self):
        for function in [surely_odd, never_odd, possible_ends]:
            known = Known({AB: (3, 3), DD: (1, 1), TURN: (2, 2)})
            told = list(function(known))
            function(known).append("x")
            self.assertEqual(function(known), told)

    def test_the_example_of_the_document(self):
        known = Known({("a", "b", False): (1, 10 ** 30), ("a", "b", True): (2, 5)})
        told = [least_fewest(known), most_fewest(known), fewest(heap_with(known, 77)), surely_odd(known)]
        self.assertEqual(told, [1, 999999999999999999999999999998, 77, []])
        self.assertEqual(possible_ends(known), [("a", "a"), ("a", "b"), ("b", "a"), ("b", "b")])
