import copy
import unittest

from hookcarts.carts import cart_of
from hookcarts.errors import CartError, NoCart, NoRange, Wrong
from hookcarts.heaps import Heap
from hookcarts.known import Known
from tests.things import GREAT, all_heaps, some_knowns, strange_values

AB, BA, TURN = cart_of("a", "b"), cart_of("b", "a"), cart_of("a", "b", turns=True)
BC, CC, DD = cart_of("b", "c", turns=True), cart_of("c", "c", turns=True), cart_of("d", "d")
RANGES = {TURN: (2, 5), AB: (0, GREAT), CC: (3, 3)}
KNOWN = Known(RANGES)
SMALL = some_knowns(40, ["a", "b", "c", "d"], 4, 3)


class KnownTest(unittest.TestCase):
    def assert_error(self, error, value, function, *arguments):
        with self.assertRaises(error) as caught:
            function(*arguments)
        self.assertIs(type(caught.exception), error)
        [told] = vars(caught.exception).values()
        if isinstance(value, (tuple, int)) and not isinstance(value, bool):
            self.assertEqual(told, value)
        else:
            self.assertIs(told, value)

    def test_ranges(self):
        self.assertEqual(KNOWN[TURN], (2, 5))
        self.assertEqual(KNOWN[AB], (0, GREAT))
        self.assertEqual(KNOWN[CC], (3, 3))
        self.assertEqual(KNOWN[BA], (0, 0))
        self.assertEqual(KNOWN[("zz", "zz", False)], (0, 0))
        self.assertEqual(Known({DD: (1, 1)})[DD], (1, 1))

    def test_no_cart(self):
        for thing in [["a", "b", True], ("a", "b", 1), ("b", "a", True), [], {}, *strange_values()]:
            with self.subTest(thing=repr(thing)[:60]):
                with self.assertRaises(NoCart) as caught:
                    KNOWN[thing]
                self.assertIs(caught.exception.cart, thing)
                self.assertIs(thing in KNOWN, False)

    def test_in_and_iterated_over(self):
        self.assertEqual([cart in KNOWN for cart in [TURN, AB, CC, BA, DD]], [True, True, True, False, False])
        self.assertEqual(len(KNOWN), 3)
        self.assertEqual(list(KNOWN), [AB, TURN, CC])
        self.assertEqual([cart for cart in Known(dict(reversed(list(RANGES.items()))))], [AB, TURN, CC])
        self.assertIs(("a", "b", 1) in KNOWN, False)
        self.assertEqual(len(list(zip(KNOWN, KNOWN))), 3)

    def test_equal(self):
        self.assertTrue(KNOWN == Known({CC: (3, 3), AB: (0, GREAT), TURN: (2, 5)}))
        self.assertFalse(KNOWN != Known(dict(RANGES)))
        for other in [Known({TURN: (2, 5), AB: (0, GREAT)}), Known({**RANGES, CC: (3, 4)}), Known({**RANGES, DD: (0, 1)}),
                      Known({**RANGES, AB: (0, GREAT - 1)}), RANGES, list(KNOWN), None, 3, Heap({CC: 3}), "", ()]:
            self.assertFalse(KNOWN == other)
            self.assertTrue(KNOWN != other)
        self.assertIs(KNOWN == KNOWN.narrowed(CC, 0, 9), True)
        self.assertIs(Known({CC: (3, 3)}) == Heap({CC: 3}), False)

    def test_wrong(self):
        for ranges in [{}, {AB: (0, 1)}, {AB: (0, 5), TURN: (0, GREAT)}, {AB: (0, 0)}, {AB: (1, 0)}, {AB: (5, 4)},
                       {AB: (-1, 4), TURN: (1, 1)}, {AB: (1, 1), TURN: (0, 0)}, {AB: [1, 1]}, {AB: (1,)}, {AB: (1, 1, 1)},
                       {AB: 1}, {AB: (True, 1)}, {AB: (1, True)}, {AB: (False, 1), TURN: (1, 1)}, {AB: (None, 1)},
                       {AB: (1, None)}, {AB: ("1", "1")}, {AB: None}, {AB: (1, 1), None: (1, 1)}, {"ab": (1, 1)},
                       {AB: (1, 1), ("a", "b", 1): (1, 1)}, {("b", "a", True): (1, 1)}, {AB: {1: 1}}, {AB: (1, (1,))},
                       [(AB, (1, 1))], [AB], (AB, (1, 1)), None, KNOWN, Heap({AB: 1}), {1, 2}, {AB: {1, 2}},
                       {AB: (1, 1), True: (1, 1)}, {AB: (1, 1), DD: ((1, 1), 1)}]:
            before = copy.copy(ranges)
            with self.subTest(ranges=repr(ranges)[:80]):
                self.assert_error(Wrong, 0, Known, ranges)
                self.assertEqual(before, ranges)

    def test_any_values(self):
        for thing in strange_values():
            with self.subTest(thing=repr(thing)[:60]):
                self.assert_error(Wrong, 0, Known, thing)
                self.assert_error(Wrong, 0, Known, {AB: thing})
                self.assert_error(Wrong, 0, Known, {AB: (1, 1), TURN: thing})
                self.assert_error(Wrong, 0, Known, {AB: (thing, 1), TURN: (1, 1)})
                if thing is not None and not callable(thing):
                    self.assert_error(Wrong, 0, Known, {AB: (1, thing), TURN: (1, 1)})

    def test_the_dict_may_be_changed(self):
        ranges = dict(RANGES)
        known = Known(ranges)
        ranges[AB] = (7, 7)
        ranges[DD] = (1, 1)
        del ranges[TURN]
        self.assertEqual(known, KNOWN)
        self.assertEqual(list(known), [AB, TURN, CC])

    def test_fits(self):
        for numbers in [{TURN: 2, CC: 3}, {TURN: 5, CC: 3, AB: GREAT}, {TURN: 3, CC: 3, AB: 1}]:
            self.assertIs(KNOWN.fits(Heap(numbers)), True)
        for numbers in [{}, {TURN: 2}, {CC: 3}, {TURN: 1, CC: 3}, {TURN: 6, CC: 3}, {TURN: 2, CC: 2}, {TURN: 2, CC: 4},
                        {TURN: 2, CC: 3, AB: GREAT + 1}, {TURN: 2, CC: 3, DD: 1}, {TURN: 2, CC: 3, BA: 1}, {AB: 1}]:
            self.assertIs(KNOWN.fits(Heap(numbers)), False)

    def test_how_many(self):
        self.assertEqual(KNOWN.how_many(), 4 * (GREAT + 1))
        self.assertEqual(Known({DD: (1, 1)}).how_many(), 1)
        self.assertEqual(Known({DD: (1, GREAT), AB: (0, 1)}).how_many(), 2 * GREAT)
        for known in SMALL:
            heaps = all_heaps(known)
            self.assertEqual(known.how_many(), len(heaps))
            for heap in heaps:
                self.assertIs(known.fits(heap), True)
                self.assertTrue(known.leasts().is_within(heap) and heap.is_within(known.mosts()))

    def test_kinds_leasts_and_mosts(self):
        self.assertEqual(KNOWN.kinds(), ["a", "b", "c"])
        self.assertEqual(Known({("d", "b", False): (0, 1), ("c", "c", True): (1, 1)}).kinds(), ["b", "c", "d"])
        self.assertEqual(KNOWN.leasts().carts(), {TURN: 2, CC: 3})
        self.assertEqual(KNOWN.mosts().carts(), {AB: GREAT, TURN: 5, CC: 3})
        for known in SMALL:
            self.assertIs(known.fits(known.leasts()) and known.fits(known.mosts()), True)
            self.assertEqual(known.mosts().kinds(), known.kinds())
            self.assertEqual(list(known.mosts()), list(known))

    def test_narrowed(self):
        told = [(TURN, 3, 4, (3, 4)), (TURN, 0, 99, (2, 5)), (TURN, 5, 5, (5, 5)), (TURN, -7, 2, (2, 2)), (AB, 1, 1, (1, 1)),
                (AB, -GREAT, 2 * GREAT, (0, GREAT)), (AB, GREAT, GREAT, (GREAT, GREAT)), (CC, 3, 3, (3, 3)),
                (AB, 0, 1, (0, 1)), (AB, -3, 7, (0, 7))]
        for cart, least, most, limits in told:
            self.assertEqual(KNOWN.narrowed(cart, least, most), Known({**RANGES, cart: limits}))
        self.assertEqual(KNOWN, Known(RANGES))

    def test_carts_that_must_not_be_there_any_more(self):
        for least in [0, -1, -GREAT]:
            narrow = KNOWN.narrowed(AB, least, 0)
            self.assertEqual(narrow, Known({TURN: (2, 5), CC: (3, 3)}))
            self.assertIs(AB in narrow, False)
            self.assertEqual([narrow[AB], len(narrow), list(narrow)], [(0, 0), 2, [TURN, CC]])
        self.assertEqual((KNOWN & Known({TURN: (1, 3), CC: (0, 8)})), Known({TURN: (2, 3), CC: (3, 3)}))
        gone = Known({AB: (0, 1), DD: (1, 1)}).narrowed(AB, 0, 0)
        self.assertEqual(gone.kinds(), ["d"])
        self.assert_error(NoCart, AB, gone.narrowed, AB, 0, 0)

    def test_narrowed_errors(self):
        for thing in [BA, ("zz", "zz", False), [AB], *strange_values()]:
            for least, most in [(0, 1), (None, None), ("", True), (5, 4)]:
                with self.assertRaises(NoCart) as caught:
                    KNOWN.narrowed(thing, least, most)
                self.assertIs(caught.exception.cart, thing)
        for thing in strange_values():
            self.assert_error(Wrong, 1, KNOWN.narrowed, AB, thing, 5)
            self.assert_error(Wrong, 1, KNOWN.narrowed, AB, thing, thing)
            self.assert_error(Wrong, 2, KNOWN.narrowed, AB, 5, thing)
            self.assert_error(Wrong, 2, KNOWN.narrowed, TURN, 9, thing)
        for cart, least, most in [(TURN, 6, 9), (TURN, 0, 1), (TURN, 4, 3), (TURN, -3, -1), (AB, -2, -1), (CC, 0, 2),
                                  (AB, GREAT + 1, GREAT + 1), (AB, 1, 0), (AB, 0, -1), (CC, 4, 4), (TURN, 0, 0)]:
            self.assert_error(NoRange, cart, KNOWN.narrowed, cart, least, most)
        self.assertEqual(KNOWN, Known(RANGES))

    def test_narrowed_heaps(self):
        for known in SMALL:
            heaps = all_heaps(known)
            for cart in known:
                for least in range(-1, 5):
                    for most in range(-1, 5):
                        left = [heap for heap in heaps if least <= heap[cart] <= most]
                        if left:
                            narrow = known.narrowed(cart, least, most)
                            self.assertEqual([heap for heap in heaps if narrow.fits(heap)], left)
                            self.assertEqual(narrow.how_many(), len(left))
                        else:
                            self.assert_error(NoRange, cart, known.narrowed, cart, least, most)

    def test_and(self):
        self.assertEqual(KNOWN & KNOWN, KNOWN)
        other = Known({TURN: (0, 3), AB: (7, GREAT + 5), CC: (1, 9), DD: (0, 4)})
        self.assertEqual(KNOWN & other, Known({TURN: (2, 3), AB: (7, GREAT), CC: (3, 3)}))
        self.assertEqual(other & KNOWN, KNOWN & other)
        self.assertEqual(list(other & KNOWN), [AB, TURN, CC])
        for wrong, cart in [(Known({TURN: (6, 6), CC: (3, 3)}), TURN), (Known({TURN: (2, 2), DD: (1, 1)}), CC),
                            (Known({TURN: (2, 2), CC: (1, 3), DD: (1, 1)}), DD), (Known({CC: (4, 4)}), TURN),
                            (Known({**RANGES, TURN: (6, 9), CC: (4, 4), BA: (1, 1)}), TURN),
                            (Known({**RANGES, AB: (GREAT + 1, GREAT + 1), CC: (4, 4)}), AB)]:
            self.assert_error(NoRange, cart, lambda one: KNOWN & one, wrong)
            self.assert_error(NoRange, cart, lambda one: one & KNOWN, wrong)
        self.assertEqual(KNOWN, Known(RANGES))

    def test_heaps_that_fit_both(self):
        both = {True: 0, False: 0}
        for one in SMALL:
            heaps = all_heaps(one)
            for other in SMALL[::3]:
                left = [heap for heap in heaps if other.fits(heap)]
                both[bool(left)] += 1
                if left:
                    self.assertEqual([heap for heap in heaps if (one & other).fits(heap)], left)
                    self.assertEqual((one & other).how_many(), len(left))
                else:
                    carts = sorted({*one, *other})
                    least = [cart for cart in carts if max(one[cart][0], other[cart][0]) > min(one[cart][1], other[cart][1])]
                    self.assert_error(NoRange, least[0], lambda: one & other)
        self.assertGreater(min(both.values()), 5)

    def test_errors_are_cart_errors(self):
        with self.assertRaises(CartError):
            Known({})

    def test_results_are_new(self):
        KNOWN.kinds().clear()
        KNOWN.leasts().carts().clear()
        self.assertEqual([KNOWN.kinds(), KNOWN.leasts().carts()], [["a", "b", "c"], {TURN: 2, CC: 3}])
