import unittest

from hookcarts.carts import cart_of
from hookcarts.fewest import fewest
from hookcarts.heaps import Heap
from hookcarts.known import Known
from hookcarts.mosts import most_fewest, most_heap
from tests.things import GREAT, all_heaps, known_renamed, some_knowns

AB, BA, TURN = cart_of("a", "b"), cart_of("b", "a"), cart_of("a", "b", turns=True)
BC, CC, DD = cart_of("b", "c", turns=True), cart_of("c", "c", turns=True), cart_of("d", "d")
SMALL = [*some_knowns(150, ["a", "b", "c", "d"], 5, 3), *some_knowns(60, ["a", "b"], 5, 3),
         *some_knowns(100, ["a", "b", "c"], 3, 6)]
NAMES = {"a": "d", "b": "a", "c": "zz", "d": "b"}


class MostsTest(unittest.TestCase):
    def assert_most(self, known, number):
        before = {cart: known[cart] for cart in known}
        heap = most_heap(known)
        self.assertIs(type(heap), Heap)
        self.assertIs(known.fits(heap), True)
        self.assertEqual([fewest(heap), most_fewest(known)], [number, number])
        self.assertEqual({cart: known[cart] for cart in known}, before)
        self.assertEqual(most_heap(Known(dict(reversed(list(before.items()))))), heap)

    def test_most_fewest(self):
        self.assert_most(Known({DD: (1, 1)}), 1)
        self.assert_most(Known({DD: (1, GREAT)}), 1)
        self.assert_most(Known({DD: (0, GREAT), CC: (1, 7)}), 2)
        self.assert_most(Known({AB: (1, GREAT)}), GREAT)
        self.assert_most(Known({AB: (1, GREAT), BA: (0, GREAT)}), GREAT)
        self.assert_most(Known({AB: (1, GREAT), BA: (7, GREAT - 9)}), GREAT - 7)
        self.assert_most(Known({TURN: (1, GREAT)}), 1)
        self.assert_most(Known({TURN: (3, GREAT), AB: (1, GREAT)}), GREAT - 3)
        self.assert_most(Known({AB: (0, 3), TURN: (5, 6), DD: (0, 1)}), 2)

    def test_odd_kinds(self):
        # Four odd kinds need two trains, which no other heap that fits does.
        star = {cart_of("a", kind, turns=True): (1, GREAT) for kind in "bcd"}
        self.assert_most(Known(star), 2)
        self.assert_most(Known({cart: (2, 3) for cart in star}), 2)
        self.assert_most(Known({cart: (2, 2) for cart in star}), 1)
        pairs = {cart_of("a", "b", turns=True): (GREAT, GREAT + 1), cart_of("b", "c", turns=True): (2, 2),
                 cart_of("c", "d", turns=True): (GREAT, GREAT + 1)}
        self.assert_most(Known(pairs), 2)

    def test_carts_that_may_not_be_there(self):
        # Without the cart between them, the lots are two.
        self.assert_most(Known({AB: (1, 1), BC: (0, GREAT), CC: (1, 5)}), 2)
        self.assert_most(Known({AB: (1, 1), BC: (1, GREAT), CC: (1, 5)}), 1)
        self.assert_most(Known({AB: (3, 3), cart_of("c", "d"): (2, 2), BC: (0, 9), cart_of("d", "b"): (0, 9)}), 12)

    def test_all_heaps_that_fit(self):
        numbers = set()
        for known in SMALL:
            number = max(fewest(heap) for heap in all_heaps(known))
            numbers.add(number)
            self.assert_most(known, number)
        self.assertGreater(len(numbers), 4)

    def test_each_number_of_trains_up_to_it(self):
        for known in SMALL[:60]:
            numbers = {fewest(heap) for heap in all_heaps(known)}
            self.assertEqual(numbers, set(range(min(numbers), most_fewest(known) + 1)))

    def test_great_ranges(self):
        four = Known({AB: (0, GREAT), cart_of("b", "c"): (0, GREAT), cart_of("c", "d"): (0, GREAT),
                      cart_of("d", "b"): (0, GREAT), DD: (1, 1), cart_of("a", "c", turns=True): (3, 3)})
        self.assert_most(four, 2 * GREAT)
        for known in SMALL[:60]:
            wide = Known({cart: (known[cart][0], known[cart][1] + (known[cart][0] < known[cart][1]) * GREAT)
                          for cart in known})
            # Numbers near both ends, and one in between.
            ends = [{}]
            for cart in wide:
                least, most = wide[cart]
                tried = sorted({least, least + 1, least + 2, (least + most) // 2, most - 2, most - 1, most})
                ends = [{**numbers, cart: number} for numbers in ends for number in tried if least <= number <= most]
            if len(ends) <= 400:
                heaps = [Heap({cart: number for cart, number in numbers.items() if number}) for numbers in ends]
                self.assert_most(wide, max(fewest(heap) for heap in heaps))

    def test_kinds_exchanged(self):
        for known in SMALL[:80]:
            self.assertEqual(most_fewest(known_renamed(known, NAMES)), most_fewest(known))

    def test_front_and_back_exchanged(self):
        for known in SMALL[:80]:
            about = Known({cart if cart[2] else cart_of(cart[1], cart[0]): known[cart] for cart in known})
            self.assertEqual(most_fewest(about), most_fewest(known))

    def test_the_example_of_the_document(self):
        known = Known({("a", "b", False): (1, 10 ** 30), ("a", "b", True): (2, 5)})
        told = [most_fewest(known), most_heap(known) == known.narrowed(("a", "b", True), 0, 2).mosts(),
                known.how_many() - 4 * 10 ** 30]
        self.assertEqual(told, [999999999999999999999999999998, True, 0])
