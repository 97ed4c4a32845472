import copy
import itertools
import unittest

from hookcarts.buying import bill, cheapest, cheapest_by, is_bill
from hookcarts.carts import cart_of
from hookcarts.ends import ends as ends_of
from hookcarts.errors import NoAdapters
from hookcarts.fewest import fewest
from hookcarts.heaps import Heap
from hookcarts.shops import is_purchase, open_ways, price_of, shown_price, way_of
from hookcarts.trains import led, one_train, ring
from tests.things import GREAT, has_twice, some_heaps, some_shops, strange_values

AB, BA, TURN = cart_of("a", "b"), cart_of("b", "a"), cart_of("a", "b", turns=True)
BC, CC, DD = cart_of("b", "c", turns=True), cart_of("c", "c", turns=True), cart_of("d", "d")
EMPTY = Heap({})
SIX = Heap({AB: 6})
SHOP = [(BA, 3), (BC, 10)]
PRICE = 10 ** 40
FEW = list(zip(some_heaps(70, ["a", "b", "c"], 3, [1, 2]), some_shops(70, ["a", "b", "c"], [1, 2, 3, 10, 1000])))
WIDE = list(zip(some_heaps(50, ["a", "b", "c", "d"], 3, [1, 2]), some_shops(50, ["a", "b", "c", "d"], [1, 2, 3, 1000])))
LARGE = list(zip(some_heaps(60, ["a", "b", "c", "d"], 12, [1, 2, GREAT, GREAT - 1, GREAT // 3, 10 ** 15]),
                 some_shops(60, ["a", "b", "c", "d"], [1, 2, 3, 999, 1000])))
NAMES = {"a": "d", "b": "a", "c": "zz", "d": "b"}


def good_purchases(heap, shop, most):
    """Return the list of the tuples (price, purchase, ends) of all good purchases with at most so many of each adapter."""
    found = []
    for numbers in itertools.product(range(most + 1), repeat=len(shop)):
        purchase = {cart: number for (cart, _), number in zip(shop, numbers) if number}
        whole = heap + Heap(purchase)
        if fewest(whole) == 1:
            found.append((price_of(shop, purchase), purchase, ends_of(whole)))
    return found


class BuyingTest(unittest.TestCase):
    def assert_cheapest(self, heap, shop, price):
        """Check that the cheapest purchase has this price, and that bills show it."""
        purchase = cheapest(heap, shop)
        self.assertIs(is_purchase(shop, purchase), True)
        self.assertEqual(list(purchase), sorted(purchase))
        self.assertEqual(price_of(shop, purchase), price)
        self.assertIsNotNone(one_train(heap + Heap(purchase)))
        for less in sorted({0, price // 2, max(0, price - 1), price}):
            paper = bill(heap, shop, less)
            self.assertIs(is_bill(heap, shop, less, paper), True)
            self.assertFalse(has_twice(paper))
        self.assertIs(is_bill(heap, shop, price + 1, paper), False)
        self.assertIsNone(bill(heap, shop, price + 1))
        self.assertIsNone(bill(heap, shop, PRICE))

    def assert_none(self, heap, shop):
        """Check that no purchase is good, as bills show."""
        with self.assertRaises(NoAdapters):
            cheapest(heap, shop)
        for price in [0, 1, GREAT, PRICE]:
            self.assertIs(is_bill(heap, shop, price, bill(heap, shop, price)), True)

    def assert_goes(self, heap, shop, way, ends, purchase):
        """Check that a purchase goes a way, and that there is a train with these ends."""
        self.assertIs(is_purchase(shop, purchase), True)
        self.assertEqual(list(purchase), sorted(purchase))
        self.assertEqual(way_of(shop, purchase), way)
        whole = heap + Heap(purchase)
        self.assertIsNotNone(ring(whole) if ends == () else led(whole, ends[0], ends[1]))

    def test_cheapest(self):
        self.assert_cheapest(SIX, SHOP, 15)
        self.assertEqual(cheapest(SIX, SHOP), {BA: 5})
        self.assert_cheapest(Heap({AB: GREAT}), [(BA, 1000)], 1000 * (GREAT - 1))
        self.assert_cheapest(Heap({AB: GREAT}), [(BA, 3), (TURN, 2)], 2 * (GREAT - 1))
        self.assert_cheapest(Heap({AB: 7}), [(cart_of("b", "c"), 1), (cart_of("c", "a"), 1), (BA, 3)], 12)
        self.assert_cheapest(Heap({AB: 7}), [(cart_of("b", "c"), 1), (cart_of("c", "a"), 1), (BA, 2)], 12)
        self.assert_cheapest(Heap({AB: 7}), [(cart_of("b", "c"), 2), (cart_of("c", "a"), 2), (BA, 3)], 18)
        self.assert_cheapest(Heap({AB: 7, DD: 1}), [(BA, 3), (cart_of("d", "a"), 1000)], 1018)

    def test_nothing_to_buy(self):
        self.assert_cheapest(Heap({AB: 1}), [], 0)
        self.assert_cheapest(Heap({AB: GREAT, BA: GREAT + 1}), SHOP, 0)
        self.assertEqual(cheapest(Heap({DD: 1}), SHOP), {})

    def test_no_carts_at_all_do_not(self):
        self.assert_none(EMPTY, [])
        self.assertEqual(bill(EMPTY, [], PRICE), [])
        self.assert_cheapest(EMPTY, [(AB, 7)], 7)
        self.assert_cheapest(EMPTY, [(AB, 7), (DD, 3), (TURN, 4)], 3)

    def test_no_adapters(self):
        for heap, shop in [(SIX, []), (SIX, [(AB, 1)]), (SIX, [(DD, 1), (CC, 5)]), (Heap({DD: 1, CC: 1}), []),
                           (SIX, [(BC, 1)]), (Heap({AB: GREAT}), [(AB, 1), (cart_of("b", "c"), 2), (CC, 2)]),
                           (Heap({AB: 2, cart_of("c", "b"): 2}), [(BA, 1), (AB, 1)])]:
            self.assert_none(heap, shop)

    def test_cheapest_of_few_carts(self):
        bought, missed = 0, 0
        for heap, shop in FEW:
            good = good_purchases(heap, shop, 7)
            if good:
                bought += 1
                self.assert_cheapest(heap, shop, min(price for price, _, _ in good))
            else:
                missed += 1
                self.assert_none(heap, shop)
        self.assertGreater(min(bought, missed), 10)

    def test_cheapest_by(self):
        self.assertEqual(cheapest_by(SIX, [(BA, 3)], (2,), ()), {BA: 6})
        self.assertEqual(cheapest_by(SIX, [(BA, 3)], (1,), ("a", "b")), {BA: 5})
        self.assertEqual(cheapest_by(SIX, [(BA, 3)], (1,), ("b", "a")), {BA: 7})
        self.assertIsNone(cheapest_by(SIX, [(BA, 3)], (0,), ()))
        self.assertEqual(cheapest_by(Heap({AB: 6, BA: 1}), SHOP, (1, 0), ()), {BA: 5})
        self.assertEqual(cheapest_by(Heap({AB: 6, BA: 1}), SHOP, (2, 2), ("a", "b")), {BA: 4, BC: 2})
        self.assertEqual(cheapest_by(Heap({AB: GREAT}), [(BA, 3)], (2,), ()), {BA: GREAT})
        self.assertEqual(cheapest_by(Heap({AB: GREAT, TURN: GREAT}), [(BA, 3)], (2,), ()), {BA: 2})

    def test_cheapest_by_of_few_carts(self):
        bought, missed = 0, 0
        for heap, shop in [*FEW, *WIDE]:
            most = 6 if len(shop) == 3 else 9
            good = good_purchases(heap, shop, most)
            for way, ends in open_ways(heap, shop):
                told = [price for price, purchase, found in good if way_of(shop, purchase) == way
                        and (ends in found if ends else any(one == other for one, other in found))]
                purchase = cheapest_by(heap, shop, way, ends)
                if purchase is None:
                    missed += 1
                    self.assertEqual(told, [])
                else:
                    bought += 1
                    self.assert_goes(heap, shop, way, ends, purchase)
                    # A purchase with more than was tried may still be cheaper.
                    if max([0, *purchase.values()]) <= most:
                        self.assertEqual(price_of(shop, purchase), min(told))
                    else:
                        self.assertLessEqual(price_of(shop, purchase), min([PRICE, *told]))
        self.assertGreater(min(bought, missed), 100)

    def test_what_is_bought_first_may_be_too_much(self):
        # The cheapest adapter for the first balances is not wanted any more when all are looked at.
        told = [({("a", "a", False): 9, ("a", "d", True): 7, BA: 9, BC: 1, ("c", "d", False): 3},
                 [(AB, 5), (("d", "c", False), 3), (("d", "b", False), 2)], (1, 1, 1), ("a", "c"), (3, 3, 7)),
                ({("a", "a", True): 9, BA: 4, ("c", "d", True): 4, ("d", "b", False): 6, DD: 7},
                 [(("a", "c", True), 1), (("a", "d", False), 3), (("b", "c", False), 3)], (1, 1, 1), ("b", "d"), (1, 3, 3))]
        for carts, shop, way, ends, numbers in told:
            purchase = {cart: number for (cart, _), number in zip(shop, numbers)}
            self.assertEqual(cheapest_by(Heap(carts), shop, way, ends), purchase)
            good = [price for price, bought, found in good_purchases(Heap(carts), shop, 8)
                    if way_of(shop, bought) == way and ends in found]
            self.assertEqual(min(good), price_of(shop, purchase))
            # The same with great numbers, of the same parity.
            odd = 10 ** 29 + 1
            great = cheapest_by(odd * Heap(carts), shop, way, ends)
            self.assert_goes(odd * Heap(carts), shop, way, ends, great)

    def test_great_heaps(self):
        bought, missed = 0, 0
        for heap, shop in LARGE:
            prices = []
            for way, ends in open_ways(heap, shop):
                purchase = cheapest_by(heap, shop, way, ends)
                if purchase is not None:
                    self.assert_goes(heap, shop, way, ends, purchase)
                    prices.append(price_of(shop, purchase))
            if prices:
                bought += 1
                self.assert_cheapest(heap, shop, min(prices))
            else:
                missed += 1
                self.assert_none(heap, shop)
        self.assertGreater(min(bought, missed), 3)

    def test_bills(self):
        paper = bill(SIX, SHOP, 15)
        self.assertIs(is_bill(SIX, SHOP, 15, paper), True)
        self.assertIs(is_bill(SIX, SHOP, 14, paper), True)
        self.assertIs(is_bill(SIX, SHOP, 16, paper), False)
        self.assertIsNone(bill(SIX, SHOP, 16))
        self.assertEqual([(way, ends) for way, ends, _ in paper], open_ways(SIX, SHOP))
        for way, ends, worths in paper:
            self.assertIs(type(worths), dict)
            self.assertEqual(list(worths), sorted(worths))
            self.assertGreaterEqual(shown_price(SIX, SHOP, way, ends, worths), 15)

    def test_is_bill(self):
        shop = [(BA, 3)]
        self.assertEqual(len(open_ways(SIX, shop)), 4)
        good = [((0,), (), {"a": 3}), ((1,), ("a", "b"), {"a": 3}), ((1,), ("b", "a"), {"a": 3}), ((2,), (), {"a": 3})]
        self.assertIs(is_bill(SIX, shop, 15, good), True)
        self.assertIs(is_bill(SIX, shop, 16, good), False)
        # Each kind may have a worth, also one that nothing has.
        self.assertIs(is_bill(SIX, shop, 15, [*good[:3], ((2,), (), {"a": 3, "zz": -9})]), True)
        self.assertIs(is_bill(SIX, shop, 15, [*good[:3], ((2,), (), {"a": 0, "b": -3})]), True)
        self.assertIs(is_bill(SIX, shop, 10 ** 40, [((0,), (), {"a": 10 ** 40}), *good[1:]]), False)
        self.assertIs(is_bill(SIX, shop, 6, [((0,), (), {"a": 1}), *good[1:]]), True)
        self.assertIs(is_bill(SIX, shop, 7, [((0,), (), {"a": 1}), *good[1:]]), False)
        self.assertIs(is_bill(SIX, shop, 0, [((0,), (), {}), ((1,), ("a", "b"), {}), *good[2:]]), True)
        self.assertIs(is_bill(EMPTY, [], 10 ** 40, []), True)
        self.assertIs(is_bill(SIX, [], 5, [((), (), {"a": 1})]), True)

    def test_is_no_bill(self):
        shop = [(BA, 3)]
        good = [((0,), (), {"a": 3}), ((1,), ("a", "b"), {"a": 3}), ((1,), ("b", "a"), {"a": 3}), ((2,), (), {"a": 3})]
        for thing in [good[:3], good[1:], [], good[::-1], [good[1], good[0], *good[2:]], [*good, good[3]], tuple(good),
                      [good], [*good[:3], ((2,), ())], [*good[:3], ((2,), (), {"a": 3}, 1)], [*good[:3], None],
                      [*good[:3], [(2,), (), {"a": 3}]], [*good[:3], ([2], (), {"a": 3})],
                      [*good[:3], ((2,), [], {"a": 3})], [*good[:3], ((2,), None, {"a": 3})],
                      [*good[:3], ((2,), (), {"a": 4})], [*good[:3], ((2,), (), {"a": 2})],
                      [*good[:3], ((2,), (), {"a": 3, "A": 0})], [*good[:3], ((2,), (), {"a": 3, 1: 0})],
                      [*good[:3], ((2,), (), {"a": 3, "c": True})], [*good[:3], ((2,), (), {"a": 3, "c": None})],
                      [*good[:3], ((2,), (), {"a": 3, "c": "0"})], [*good[:3], ((2,), (), [("a", 3)])],
                      [*good[:3], ((2,), (), None)], [*good[:3], ((2,), ("a", "b"), {"a": 3})],
                      [good[0], ((True,), ("a", "b"), {"a": 3}), *good[2:]], [((False,), (), {"a": 3}), *good[1:]],
                      [((0, 0), (), {"a": 3}), *good[1:]], [*good[:3], ((2,), (), {("a",): 3})], {0: good}, set()]:
            self.assertIs(is_bill(SIX, shop, 15, thing), False, repr(thing))
        for thing in strange_values():
            self.assertIs(is_bill(SIX, shop, 0, thing), False)
            self.assertIs(is_bill(SIX, shop, 0, [thing] * 4), False)
            self.assertIs(is_bill(SIX, shop, 0, [*good[:3], (thing, (), {"a": 3})]), False)
            self.assertIs(is_bill(SIX, shop, 0, [*good[:3], ((thing,), (), {"a": 3})]), False)
            if thing != ():
                self.assertIs(is_bill(SIX, shop, 0, [*good[:3], ((2,), thing, {"a": 3})]), False)
            if thing != {"a": 1}:
                self.assertIs(is_bill(SIX, shop, 0, [*good[:3], ((2,), (), thing)]), False)
            self.assertIs(is_bill(SIX, shop, 0, [*good[:3], ((2,), (), {"a": thing})]), False)
            self.assertIs(is_bill(SIX, shop, 15, good), True)

    def test_bills_of_another_heap(self):
        paper = bill(SIX, [(BA, 3)], 15)
        self.assertIs(is_bill(Heap({AB: 8}), [(BA, 3)], 15, paper), True)
        self.assertIs(is_bill(Heap({AB: 4}), [(BA, 3)], 15, paper), False)
        self.assertIs(is_bill(SIX, [(BA, 2)], 10, paper), False)

    def test_kinds_exchanged(self):
        for heap, shop in [*FEW[:30], *LARGE[:10]]:
            renamed = heap.renamed({**NAMES, **{kind: NAMES[kind] for kind in heap.kinds()}})
            offers = [(next(iter(Heap({cart: 1}).renamed(NAMES))), price) for cart, price in shop]
            try:
                price = price_of(shop, cheapest(heap, shop))
            except NoAdapters:
                self.assert_none(renamed, offers)
            else:
                self.assertEqual(price_of(offers, cheapest(renamed, offers)), price)

    def test_front_and_back_exchanged(self):
        for heap, shop in [*FEW[:30], *LARGE[:10]]:
            offers = [(next(iter(Heap({cart: 1}).about())), price) for cart, price in shop]
            for way, ends in open_ways(heap, shop):
                purchase = cheapest_by(heap, shop, way, ends)
                other = cheapest_by(heap.about(), offers, way, ends[::-1])
                self.assertEqual(purchase is None, other is None)
                if purchase is not None:
                    self.assertEqual(price_of(shop, purchase), price_of(offers, other))

    def test_nothing_is_changed(self):
        for heap, shop in [*FEW[:20], *LARGE[:10]]:
            before = [copy.deepcopy(shop), heap.carts()]
            for way, ends in open_ways(heap, shop):
                self.assertEqual(cheapest_by(heap, shop, way, ends), cheapest_by(heap, shop, way, ends))
            paper = bill(heap, shop, 0)
            told = copy.deepcopy(paper)
            self.assertIs(is_bill(heap, shop, 0, paper), True)
            self.assertEqual([paper, bill(heap, shop, 0)], [told, told])
            paper.clear()
            self.assertEqual(bill(heap, shop, 0), told)
            self.assertEqual([shop, heap.carts()], before)

    def test_the_example_of_the_document(self):
        there, back, bc = cart_of("a", "b"), cart_of("b", "a"), cart_of("b", "c", turns=True)
        shop = [(back, 3), (bc, 10)]
        self.assertEqual(cheapest(Heap({there: 6}), shop), {("b", "a", False): 5})
        self.assertEqual(cheapest_by(Heap({there: 6}), [(back, 3)], (2,), ()), {("b", "a", False): 6})
        paper = bill(Heap({there: 6}), shop, 15)
        told = [is_bill(Heap({there: 6}), shop, 15, paper), is_bill(Heap({there: 6}), shop, 16, paper),
                bill(Heap({there: 6}), shop, 16)]
        self.assertEqual(told, [True, False, None])
