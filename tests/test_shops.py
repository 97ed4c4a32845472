import itertools
import random
import unittest

from hookcarts.carts import cart_of
from hookcarts.fewest import fewest
from hookcarts.heaps import Heap
from hookcarts.shops import (is_purchase, is_shop, least_of, linking, links_missing, open_ways, price_of, shown_price,
                             way_of)
from tests.things import GREAT, all_carts, some_heaps, some_shops, strange_values

AB, BA, TURN = cart_of("a", "b"), cart_of("b", "a"), cart_of("a", "b", turns=True)
BC, CC, DD = cart_of("b", "c", turns=True), cart_of("c", "c", turns=True), cart_of("d", "d")
EMPTY = Heap({})
SHOP = [(BA, 3), (BC, 10)]
THREE = [(TURN, 1), (AB, 1000), (DD, 7)]
SMALL = some_heaps(60, ["a", "b", "c", "d"], 4, [1, 2, 3])
LARGE = some_heaps(40, ["a", "b", "c", "d"], 12, [1, 2, GREAT, GREAT - 1, GREAT // 3, 10 ** 15])


def plain_shown(heap, shop, way, ends, worths):
    """Return the price shown, step by step as the document tells it."""
    worth = {kind: worths[kind] if kind in worths else 0 for kind in "abcdxyz"}
    total = 0
    for (front, back, turns), number in heap.carts().items():
        difference = worth[front] - worth[back]
        total += -number * abs(difference) if turns else number * difference
    for ((front, back, turns), price), number in zip(shop, way):
        difference = worth[front] - worth[back]
        if number and (abs(difference) > price if turns else price + difference < 0):
            return None
        total += number * (price - abs(difference)) if turns else number * (price + difference)
    return total + (worth[ends[1]] - worth[ends[0]] if ends else 0)


class ShopsTest(unittest.TestCase):
    def test_is_shop(self):
        for shop in [[], [(AB, 1)], [(AB, 1000)], SHOP, THREE, [(AB, 1), (BA, 1), (TURN, 1)], [(DD, 5)],
                     [(("d", "d", False), 5), (("d", "d", True), 5)]]:
            self.assertIs(is_shop(shop), True)

    def test_is_no_shop(self):
        for thing in [[(AB, 0)], [(AB, 1001)], [(AB, -1)], [(AB, True)], [(AB, False)], [(AB, None)], [(AB, "1")],
                      [(AB, GREAT)], [(AB, 1), (AB, 1)], [(AB, 1), (BA, 2), (AB, 3)], [*THREE, (BA, 1)], [(AB,)],
                      [(AB, 1, 1)], [[AB, 1]], ((AB, 1),), {AB: 1}, {(AB, 1)}, AB, (AB, 1), [AB], [AB, 1], [None],
                      [(AB, 1), None], [("ab", 1)], [(("b", "a", True), 1)], [(("a", "b", 1), 1)], [(("a", "b", 0), 1)],
                      [(["a", "b", True], 1)], [(1, AB)], [(AB, (1,))], Heap({AB: 1}), [SHOP], [()], [[]]]:
            self.assertIs(is_shop(thing), False, repr(thing))
        for thing in strange_values():
            if thing != (TURN, 1):
                self.assertIs(is_shop([thing]), False)
            self.assertIs(is_shop([(thing, 1)]), False)
            if thing != []:
                self.assertIs(is_shop(thing), False)
            self.assertIs(is_shop([(AB, 1), (BA, thing)]), False)

    def test_is_purchase(self):
        for purchase in [{}, {BA: 1}, {BC: 1}, {BA: GREAT, BC: 1}, {BC: 7, BA: 2}]:
            self.assertIs(is_purchase(SHOP, purchase), True)
        self.assertIs(is_purchase([], {}), True)

    def test_is_no_purchase(self):
        for thing in [{AB: 1}, {BA: 0}, {BA: -1}, {BA: True}, {BA: None}, {BA: "1"}, {BA: 1, AB: 1}, {BA: 1, BC: 0},
                      {("b", "c", 1): 1}, {("b", "a", 0): 1}, {("c", "b", True): 1}, {("b", "c", False): 1}, {"ba": 1},
                      {None: 1}, {BA: [1]}, {BA: (1,)}, [BA], [(BA, 1)], (BA, 1), {BA}, Heap({BA: 1}), BA, [], ()]:
            self.assertIs(is_purchase(SHOP, thing), False, repr(thing))
        self.assertIs(is_purchase([], {BA: 1}), False)
        for thing in strange_values():
            self.assertIs(is_purchase(SHOP, thing), False)
            self.assertIs(is_purchase(SHOP, {BA: thing}), False)
            self.assertIs(is_purchase(THREE, {DD: 1, TURN: thing}), False)

    def test_price_of(self):
        self.assertEqual(price_of(SHOP, {}), 0)
        self.assertEqual(price_of(SHOP, {BA: 2}), 6)
        self.assertEqual(price_of(SHOP, {BC: GREAT, BA: 1}), 10 * GREAT + 3)
        self.assertEqual(price_of([], {}), 0)
        self.assertEqual(price_of(THREE, {DD: 1, AB: 2, TURN: 3}), 2010)

    def test_ways(self):
        told = [({}, (0, 0, 0)), ({TURN: 1}, (1, 0, 0)), ({TURN: 2}, (2, 0, 0)), ({TURN: 3}, (1, 0, 0)),
                ({AB: GREAT, DD: GREAT + 1}, (0, 2, 1)), ({DD: 4, TURN: 2, AB: 7}, (2, 1, 2))]
        for purchase, way in told:
            self.assertEqual(way_of(THREE, purchase), way)
        self.assertEqual(way_of([], {}), ())
        self.assertTrue(all(type(number) is int for number in way_of(THREE, {TURN: 3, AB: 2})))

    def test_least_of(self):
        self.assertEqual(least_of([], ()), {})
        self.assertEqual(list(least_of(THREE, (2, 1, 0)).items()), [(AB, 1), (TURN, 2)])
        self.assertEqual(list(least_of(THREE, (1, 0, 2)).items()), [(TURN, 1), (DD, 2)])
        self.assertEqual(list(least_of([(DD, 1), (CC, 1), (AB, 1)], (1, 1, 1))), [AB, CC, DD])
        for way in itertools.product(range(3), repeat=3):
            purchase = least_of(THREE, way)
            self.assertIs(is_purchase(THREE, purchase), True)
            self.assertEqual(way_of(THREE, purchase), way)

    def test_open_ways(self):
        heap = Heap({AB: 6})
        self.assertEqual(open_ways(heap, [(BA, 3)]),
                         [((0,), ()), ((1,), ("a", "b")), ((1,), ("b", "a")), ((2,), ())])
        self.assertEqual(open_ways(heap, []), [((), ())])
        self.assertEqual(open_ways(Heap({BA: GREAT - 1}), []), [((), ("a", "b")), ((), ("b", "a"))])
        self.assertEqual(open_ways(Heap({AB: 1, DD: 1}), [(BA, 1)]), [])
        self.assertEqual(open_ways(Heap({AB: 1, cart_of("d", "c"): 1, BC: 2}), []), [])
        self.assertEqual(open_ways(Heap({AB: 1, CC: 1}), [(BC, 1)]),
                         [((1,), ("a", "c")), ((1,), ("c", "a")), ((2,), ("a", "b")), ((2,), ("b", "a"))])

    def test_no_carts_at_all_are_no_lot(self):
        self.assertEqual(open_ways(EMPTY, []), [])
        self.assertEqual(open_ways(EMPTY, [(DD, 5)]), [((1,), ()), ((2,), ())])
        self.assertEqual(open_ways(EMPTY, [(BA, 5)]), [((1,), ("a", "b")), ((1,), ("b", "a")), ((2,), ())])

    def test_open_ways_of_many_heaps(self):
        seen = set()
        for heap, shop in zip([*SMALL, *LARGE], some_shops(100, ["a", "b", "c", "d"], [1, 2, 10, 1000])):
            told = []
            for way in itertools.product(range(3), repeat=len(shop)):
                whole = heap + Heap({cart: number for (cart, _), number in zip(shop, way) if number})
                if len(whole.lots()) == 1 and len(whole.odd()) == 0:
                    told.append((way, ()))
                if len(whole.lots()) == 1 and len(whole.odd()) == 2:
                    told.extend([(way, tuple(whole.odd())), (way, tuple(whole.odd()[::-1]))])
            self.assertEqual(open_ways(heap, shop), told)
            seen.add(min(len(told), 9))
        self.assertGreater(len(seen), 5)

    def test_shown_price(self):
        heap = Heap({AB: 6})
        self.assertEqual(shown_price(heap, [(BA, 3)], (1,), ("a", "b"), {"a": 3}), 15)
        self.assertEqual(shown_price(heap, [(BA, 3)], (1,), ("b", "a"), {"a": 3}), 21)
        self.assertEqual(shown_price(heap, [(BA, 3)], (2,), (), {"a": 3}), 18)
        self.assertEqual(shown_price(heap, [(BA, 3)], (2,), (), {"a": 3, "zz": 99}), 18)
        self.assertEqual(shown_price(heap, [(BA, 3)], (0,), (), {"a": 10 ** 40}), 6 * 10 ** 40)
        self.assertEqual(shown_price(heap, [(BA, 3)], (2,), (), {}), 6)
        self.assertEqual(shown_price(heap, [(BA, 3)], (2,), (), {"b": -3}), 18)
        self.assertEqual(shown_price(heap, [(BA, 3)], (2,), (), {"b": 5, "a": 8}), 18)
        self.assertEqual(shown_price(Heap({TURN: GREAT}), [(BC, 4)], (2,), (), {"b": -3}), 2 - 3 * GREAT)

    def test_prices_that_can_not_be_shown(self):
        heap = Heap({AB: 6})
        self.assertIsNone(shown_price(heap, [(BA, 3)], (1,), ("a", "b"), {"a": 4}))
        self.assertIsNone(shown_price(heap, [(BA, 3)], (2,), (), {"b": -4}))
        self.assertEqual(shown_price(heap, [(BA, 3)], (2,), (), {"b": 4}), -10)
        self.assertIsNone(shown_price(heap, [(TURN, 3)], (2,), (), {"b": 4}))
        self.assertIsNone(shown_price(heap, [(TURN, 3)], (2,), (), {"b": -4}))
        self.assertEqual(shown_price(heap, [(TURN, 3)], (2,), (), {"b": 3}), -18)
        self.assertEqual(shown_price(heap, [(TURN, 3)], (2,), (), {"b": -3}), 18)
        # Of an adapter of which the way has 0 nothing is asked.
        self.assertEqual(shown_price(heap, [(BA, 3), (TURN, 3)], (0, 0), (), {"b": -4}), 24)
        self.assertIsNone(shown_price(heap, [(TURN, 9), (BA, 3)], (2, 2), (), {"b": -4}))

    def test_shown_price_of_many_worths(self):
        source = random.Random(3)
        seen = {True: 0, False: 0}
        for heap, shop in zip([*SMALL, *LARGE], some_shops(100, ["a", "b", "c", "d"], [1, 2, 10, 1000])):
            for way, ends in open_ways(heap, shop):
                for numbers in [[-1, 0, 1], [-4, 2, 10], [-GREAT, GREAT]]:
                    worths = {kind: source.choice(numbers) for kind in "abcdxz" if source.random() < 0.7}
                    told = plain_shown(heap, shop, way, ends, worths)
                    self.assertEqual(shown_price(heap, shop, way, ends, worths), told)
                    seen[told is None] += 1
        self.assertGreater(min(seen.values()), 100)

    def test_links_missing(self):
        self.assertEqual(links_missing(EMPTY), 0)
        self.assertEqual(linking(EMPTY), EMPTY)
        self.assertEqual(links_missing(Heap({AB: 6})), 5)
        self.assertEqual(linking(Heap({AB: 6})).carts(), {BA: 5})
        self.assertEqual(linking(Heap({AB: GREAT})).carts(), {BA: GREAT - 1})
        self.assertEqual([links_missing(Heap({DD: GREAT})), len(linking(Heap({DD: 1})))], [0, 0])
        self.assertEqual(links_missing(Heap({DD: 5, CC: 1, AB: 3, BA: 3})), 2)

    def test_links(self):
        for heap in [*SMALL, *LARGE]:
            number = links_missing(heap)
            links = linking(heap)
            self.assertIs(type(links), Heap)
            self.assertEqual([links.count(), number], [max(0, fewest(heap) - 1), links.count()])
            self.assertFalse(any(turns for _, _, turns in links))
            self.assertEqual(fewest(heap + links), min(1, heap.count()))

    def test_fewer_links_do_not_do(self):
        tried = 0
        for heap in SMALL[:40]:
            kinds = heap.kinds()
            number = links_missing(heap)
            if 0 < number < 4:
                tried += 1
                for carts in itertools.combinations_with_replacement(all_carts(kinds), number - 1):
                    more = heap
                    for cart in carts:
                        more = more.put(cart)
                    self.assertGreater(fewest(more), 1)
        self.assertGreater(tried, 10)

    def test_results_are_new(self):
        open_ways(EMPTY, [(DD, 5)]).clear()
        least_of(SHOP, (1, 1)).clear()
        self.assertEqual(open_ways(EMPTY, [(DD, 5)]), [((1,), ()), ((2,), ())])
        self.assertEqual(least_of(SHOP, (1, 1)), {BA: 1, BC: 1})

    def test_nothing_is_changed(self):
        shop, way, worths, purchase = list(SHOP), (1, 2), {"b": 1, "a": 2}, {BC: 2, BA: 1}
        heap = Heap({AB: 6})
        price_of(shop, purchase), way_of(shop, purchase), least_of(shop, way), open_ways(heap, shop)
        shown_price(heap, shop, way, (), worths), linking(heap)
        self.assertEqual([shop, worths, list(purchase)], [SHOP, {"b": 1, "a": 2}, [BC, BA]])
        self.assertEqual(heap.carts(), {AB: 6})

    def test_the_example_of_the_document(self):
        there, back = cart_of("a", "b"), cart_of("b", "a")
        self.assertEqual([links_missing(Heap({there: 6})), linking(Heap({there: 6})).carts()], [5, {("b", "a", False): 5}])
        told = [open_ways(Heap({there: 6}), [(back, 3)]),
                shown_price(Heap({there: 6}), [(back, 3)], (1,), ("a", "b"), {"a": 3})]
        self.assertEqual(told, [[((0,), ()), ((1,), ("a", "b")), ((1,), ("b", "a")), ((2,), ())], 15])
