import unittest

from hookcarts.carts import cart_of
from hookcarts.fewest import fewest
from hookcarts.heaps import Heap
from hookcarts.known import Known
from hookcarts.leasts import least_fewest, least_heap
from hookcarts.mosts import most_fewest
from tests.things import GREAT, all_heaps, known_renamed, some_knowns

AB, BA, TURN = cart_of("a", "b"), cart_of("b", "a"), cart_of("a", "b", turns=True)
BC, CC, DD = cart_of("b", "c", turns=True), cart_of("c", "c", turns=True), cart_of("d", "d")
SMALL = [*some_knowns(150, ["a", "b", "c", "d"], 5, 3), *some_knowns(60, ["a", "b"], 5, 3),
         *some_knowns(60, ["a", "b", "c"], 3, 6)]
NAMES = {"a": "d", "b": "a", "c": "zz", "d": "b"}


class LeastsTest(unittest.TestCase):
    def assert_least(self, known, number):
        before = {cart: known[cart] for cart in known}
        heap = least_heap(known)
        self.assertIs(type(heap), Heap)
        self.assertIs(known.fits(heap), True)
        self.assertEqual([fewest(heap), least_fewest(known)], [number, number])
        self.assertEqual({cart: known[cart] for cart in known}, before)
        self.assertEqual(least_heap(Known(dict(reversed(list(before.items()))))), heap)

    def test_carts_of_one_kind(self):
        self.assert_least(Known({DD: (1, 1)}), 1)
        self.assert_least(Known({DD: (1, GREAT)}), 1)
        self.assert_least(Known({DD: (0, GREAT), CC: (1, 7)}), 1)
        self.assert_least(Known({DD: (2, GREAT), CC: (1, 7)}), 2)

    def test_fixed_carts(self):
        self.assert_least(Known({AB: (GREAT, GREAT)}), GREAT)
        self.assert_least(Known({AB: (7, GREAT)}), 7)
        self.assert_least(Known({AB: (1, GREAT), BA: (0, GREAT)}), 1)
        self.assert_least(Known({AB: (GREAT, 2 * GREAT), BA: (0, GREAT - 9)}), 9)
        self.assert_least(Known({AB: (1, GREAT), BA: (GREAT // 2, GREAT // 2)}), 1)
        self.assert_least(Known({AB: (1, GREAT // 2), BA: (GREAT, GREAT)}), GREAT // 2)

    def test_ranges_of_each_width(self):
        for most in range(1, 14):
            for many in range(most, 15):
                self.assert_least(Known({AB: (1, most), BA: (many, many)}), max(1, many - most))
                self.assert_least(Known({AB: (0, most), TURN: (2, 2), BA: (many, many)}), max(1, many - most - 2))
                self.assert_least(Known({TURN: (1, most), BA: (many, many)}), max(1, many - most))

    def test_both_directions_and_carts_that_turn(self):
        # The numbers found must do together: there are two that can be chosen, and others that turn.
        for low in range(1, 8):
            for more in range(5):
                known = Known({AB: (low, low + more), BA: (3, 7), TURN: (1, 2), cart_of("b", "c"): (5, 5),
                               cart_of("c", "a"): (0, 9)})
                self.assert_least(known, min(fewest(heap) for heap in all_heaps(known)))

    def test_carts_that_turn(self):
        self.assert_least(Known({TURN: (1, GREAT)}), 1)
        self.assert_least(Known({TURN: (3, GREAT - 9), AB: (GREAT, GREAT)}), 9)
        self.assert_least(Known({TURN: (0, 5), AB: (8, 8)}), 3)
        self.assert_least(Known({TURN: (0, 1), AB: (1, 1)}), 1)
        self.assert_least(Known({TURN: (4, 4), AB: (2, 9), BA: (11, 12)}), 1)

    def test_numbers_that_are_no_ends_of_ranges(self):
        # Three lots of carts are balanced by just so many of the one that is free.
        carts = {cart_of("a", "b"): (1, GREAT), cart_of("b", "c"): (GREAT // 3, GREAT // 3),
                 cart_of("c", "a"): (GREAT // 3, GREAT // 3)}
        self.assert_least(Known(carts), 1)
        self.assertIn(least_heap(Known(carts))[AB] - GREAT // 3, [-1, 0, 1])
        both = {**carts, cart_of("b", "a", turns=False): (10, 10)}
        self.assert_least(Known(both), 1)

    def test_odd_kinds(self):
        star = [cart_of("a", "b", turns=True), cart_of("a", "c", turns=True), cart_of("a", "d", turns=True)]
        self.assert_least(Known({cart: (1, 1) for cart in star}), 2)
        self.assert_least(Known({cart: (1, 2) for cart in star}), 1)
        self.assert_least(Known({cart: (GREAT - 1, GREAT - 1) for cart in star}), 2)
        self.assert_least(Known({cart: (GREAT, GREAT) for cart in star}), 1)

    def test_carts_that_may_not_be_there(self):
        self.assert_least(Known({AB: (1, 1), BC: (0, GREAT), CC: (1, 5)}), 1)
        self.assert_least(Known({AB: (1, 1), cart_of("c", "d"): (0, 9), CC: (1, 5)}), 2)
        self.assert_least(Known({AB: (1, 1), cart_of("c", "d"): (0, 9), DD: (0, 9)}), 1)
        self.assert_least(Known({AB: (3, 3), BC: (0, 9), cart_of("d", "c"): (2, 9)}), 5)
        self.assert_least(Known({AB: (3, 3), BC: (0, 9), cart_of("c", "d"): (2, 9)}), 3)

    def test_all_heaps_that_fit(self):
        numbers = set()
        for known in SMALL:
            number = min(fewest(heap) for heap in all_heaps(known))
            numbers.add(number)
            self.assert_least(known, number)
        self.assertGreater(len(numbers), 3)

    def test_great_ranges(self):
        for known in SMALL:
            wide = Known({cart: (known[cart][0] * 10 ** 20, known[cart][1] + (known[cart][0] < known[cart][1]) * GREAT)
                          for cart in known if known[cart][0] * 10 ** 20 <= known[cart][1] or known[cart][0] < known[cart][1]}
                         | {DD: (GREAT, GREAT)})
            number = least_fewest(wide)
            self.assert_least(wide, number)
            # No heap that fits has a lesser one: not those of all ends of ranges, nor those beside the one found.
            found = least_heap(wide)
            for cart in wide:
                least, most = wide[cart]
                for many in {least, least + 1, most - 1, most, found[cart] - 2, found[cart] - 1, found[cart] + 1}:
                    if least <= many <= most:
                        numbers = {**found.carts(), cart: many}
                        self.assertGreaterEqual(fewest(Heap({one: n for one, n in numbers.items() if n})), number)
            self.assertLessEqual(number, most_fewest(wide))

    def test_kinds_exchanged(self):
        for known in SMALL[:80]:
            self.assertEqual(least_fewest(known_renamed(known, NAMES)), least_fewest(known))

    def test_front_and_back_exchanged(self):
        for known in SMALL[:80]:
            about = Known({cart if cart[2] else cart_of(cart[1], cart[0]): known[cart] for cart in known})
            self.assertEqual(least_fewest(about), least_fewest(known))

    def test_the_example_of_the_document(self):
        known = Known({("a", "b", False): (1, 10 ** 30), ("a", "b", True): (2, 5)})
        self.assertEqual(least_fewest(known), 1)
