import copy
import unittest
import unittest.mock

from hookcarts.carts import cart_of
from hookcarts.errors import Missing, NoCart, NoKind, Wrong
from hookcarts.heaps import Heap
from hookcarts.kinds import is_cart
from tests.things import GREAT, some_heaps, strange_values

AB, BA, TURN = cart_of("a", "b"), cart_of("b", "a"), cart_of("a", "b", turns=True)
BC, CC, DD = cart_of("c", "b", turns=True), cart_of("c", "c", turns=True), cart_of("d", "d")
HEAP = Heap({TURN: 3, AB: 2, BC: 1, DD: GREAT})
EMPTY = Heap({})
HEAPS = [EMPTY, HEAP, *some_heaps(60, ["a", "b", "c", "dd"], 6, [1, 2, 3, GREAT, GREAT - 1])]
NO_HEAPS = [
    {AB: 0}, {AB: -1}, {AB: True}, {AB: "1"}, {AB: None}, {AB: [1]}, {AB: (1,)}, {AB: 1, BC: 0}, {AB: 1, None: 1},
    {("b", "a", True): 1}, {("a", "b", 1): 1}, {("a", "b", 0): 1}, {("a", "b"): 1}, {"a": 1}, {1: AB}, {(AB, False): 1},
    [(AB, 1)], [AB], AB, {AB}, [], (), None, 0, "", HEAP,
]


class HeapTest(unittest.TestCase):
    def assert_raises(self, error, field, thing, function, *arguments):
        with self.assertRaises(error) as caught:
            function(*arguments)
        self.assertEqual(repr(getattr(caught.exception, field)), repr(thing))

    def test_carts(self):
        carts = {TURN: 3, AB: 2, BC: GREAT}
        heap = Heap(carts)
        self.assertIs(type(heap.carts()), dict)
        self.assertEqual(heap.carts(), {AB: 2, TURN: 3, BC: GREAT})
        self.assertEqual(list(heap.carts()), [AB, TURN, BC])
        self.assertEqual(carts, {TURN: 3, AB: 2, BC: GREAT})
        self.assertEqual(list(carts), [TURN, AB, BC])
        self.assertEqual(EMPTY.carts(), {})

    def test_no_heaps(self):
        for thing in [*NO_HEAPS, *[thing for thing in strange_values() if thing != {}]]:
            before = copy.deepcopy(thing)
            with self.subTest(thing=repr(thing)[:60]):
                self.assert_raises(Wrong, "place", 0, Heap, thing)
                self.assertEqual(thing, before)

    def test_the_dict_is_copied(self):
        carts = {AB: 1}
        heap = Heap(carts)
        carts[AB] = 5
        carts[BC] = 1
        self.assertEqual(heap.carts(), {AB: 1})
        heap.carts()[AB] = 7
        heap.carts().clear()
        self.assertEqual(heap.carts(), {AB: 1})
        self.assertEqual([heap[AB], heap.count(), len(heap)], [1, 1, 1])

    def test_numbers_of_carts(self):
        self.assertEqual([HEAP[TURN], HEAP[AB], HEAP[BC], HEAP[DD], HEAP[BA], HEAP[CC]], [3, 2, 1, GREAT, 0, 0])
        self.assertEqual(EMPTY[AB], 0)
        self.assertIs(type(EMPTY[AB]), int)

    def test_numbers_of_what_is_no_cart(self):
        for thing in strange_values():
            for heap in [HEAP, EMPTY]:
                with self.subTest(thing=repr(thing)[:60]), self.assertRaises(NoCart) as caught:
                    heap[thing]
                self.assertIs(caught.exception.cart, thing)

    def test_in(self):
        for cart in [TURN, AB, BC, DD]:
            self.assertIs(cart in HEAP, True)
            self.assertIs(cart in EMPTY, False)
        for thing in [BA, CC, ("d", "d", True), HEAP, *strange_values()]:
            self.assertIs(thing in HEAP, False)
        self.assertIs(("a", "b", 1) in Heap({("a", "b", True): 1}), False)
        self.assertIs(("a", "b", 0) in Heap({("a", "b", False): 1}), False)

    def test_len_and_iteration(self):
        self.assertEqual([len(HEAP), len(EMPTY), len(Heap({AB: GREAT}))], [4, 0, 1])
        self.assertEqual(list(HEAP), [AB, TURN, BC, DD])
        self.assertEqual([cart for cart in HEAP], sorted(HEAP.carts()))
        self.assertEqual(list(EMPTY), [])

    def test_count_and_kinds(self):
        self.assertEqual([HEAP.count(), EMPTY.count(), Heap({AB: 2, BA: 3}).count()], [6 + GREAT, 0, 5])
        self.assertEqual([HEAP.kinds(), EMPTY.kinds(), Heap({BA: 7}).kinds()], [["a", "b", "c", "d"], [], ["a", "b"]])
        self.assertEqual(Heap({("b", "aa", False): 1, ("ab", "a", False): 1}).kinds(), ["a", "aa", "ab", "b"])
        HEAP.kinds().clear()
        self.assertEqual(len(HEAP.kinds()), 4)

    def test_hooks(self):
        self.assertEqual([HEAP.hooks(kind) for kind in "abcde"], [5, 6, 1, 2 * GREAT, 0])
        self.assertEqual([Heap({CC: 3}).hooks("c"), EMPTY.hooks("a"), HEAP.hooks("zzzzzzzz")], [6, 0, 0])
        for heap in HEAPS:
            for kind in [*heap.kinds(), "zz"]:
                expected = sum(number * (cart[:2].count(kind)) for cart, number in heap.carts().items())
                self.assertEqual(heap.hooks(kind), expected)

    def test_hooks_of_what_is_no_kind(self):
        for thing in [1, ("a",), *strange_values()]:
            with self.subTest(thing=repr(thing)[:60]), self.assertRaises(NoKind) as caught:
                HEAP.hooks(thing)
            self.assertIs(caught.exception.kind, thing)

    def test_odd(self):
        self.assertEqual([HEAP.odd(), EMPTY.odd(), Heap({CC: 1, DD: 3}).odd()], [["a", "c"], [], []])
        self.assertEqual(Heap({BA: GREAT + 1}).odd(), ["a", "b"])
        for heap in HEAPS:
            self.assertEqual(heap.odd(), [kind for kind in heap.kinds() if heap.hooks(kind) % 2 == 1])
        HEAP.odd().clear()
        self.assertEqual(HEAP.odd(), ["a", "c"])

    def test_lots(self):
        self.assertEqual([lot.carts() for lot in HEAP.lots()], [{AB: 2, TURN: 3, BC: 1}, {DD: GREAT}])
        self.assertEqual(EMPTY.lots(), [])
        chain = Heap({("d", "a", False): 1, ("d", "z", True): 2, ("e", "z", False): 3, ("b", "b", False): 1})
        self.assertEqual([lot.kinds() for lot in chain.lots()], [["a", "d", "e", "z"], ["b"]])
        # Here the ascending carts and the least kinds of the lots are in another order.
        crossed = Heap({("b", "c", False): 1, ("z", "a", False): 1})
        self.assertEqual([lot.kinds() for lot in crossed.lots()], [["a", "z"], ["b", "c"]])

    def test_lots_of_many_heaps(self):
        for heap in HEAPS:
            lots = heap.lots()
            self.assertEqual(sum(lots, EMPTY), heap)
            self.assertEqual(sum(len(lot) for lot in lots), len(heap))
            self.assertEqual([lot.kinds()[0] for lot in lots], sorted(lot.kinds()[0] for lot in lots))
            kinds = [kind for lot in lots for kind in lot.kinds()]
            self.assertEqual(sorted(kinds), heap.kinds())
            self.assertTrue(all(len(lot.lots()) == 1 for lot in lots))

    def test_put(self):
        self.assertEqual(HEAP.put(AB).carts(), {AB: 3, TURN: 3, BC: 1, DD: GREAT})
        self.assertEqual(HEAP.put(CC, GREAT), Heap({**HEAP.carts(), CC: GREAT}))
        self.assertEqual(EMPTY.put(AB, many=2), Heap({AB: 2}))
        self.assertEqual(list(HEAP.put(BA)), [AB, TURN, BA, BC, DD])
        self.assertEqual(HEAP[AB], 2)

    def test_out(self):
        self.assertEqual(HEAP.out(AB).carts(), {AB: 1, TURN: 3, BC: 1, DD: GREAT})
        self.assertEqual(HEAP.out(AB, 2).carts(), {TURN: 3, BC: 1, DD: GREAT})
        self.assertEqual(HEAP.out(DD, many=GREAT - 1)[DD], 1)
        self.assertEqual(HEAP[AB], 2)
        for cart, many in [(AB, 3), (BA, 1), (DD, GREAT + 1), (BC, 2)]:
            self.assert_raises(Missing, "cart", cart, HEAP.out, cart, many)
        self.assert_raises(Missing, "cart", AB, EMPTY.out, AB)

    def test_wrong_arguments_of_put_and_out(self):
        for function in [HEAP.put, HEAP.out]:
            for thing in ["a", {}, *strange_values()]:
                with self.subTest(thing=repr(thing)[:60]):
                    self.assert_raises(Wrong, "place", 0, function, thing)
                    self.assert_raises(Wrong, "place", 0, function, thing, 0)
                    self.assert_raises(Wrong, "place", 0, function, thing, thing)
                    self.assert_raises(Wrong, "place", 1, function, AB, thing)
            for many in [0, -1, -GREAT]:
                self.assert_raises(Wrong, "place", 1, function, AB, many)
                self.assert_raises(Wrong, "place", 1, function, BA, many)

    def test_sums(self):
        self.assertEqual(Heap({AB: 1, BC: 2}) + Heap({BC: GREAT, CC: 1}), Heap({AB: 1, BC: GREAT + 2, CC: 1}))
        self.assertEqual(list(Heap({BC: 2}) + Heap({AB: 1})), [AB, BC])
        for one, other in zip(HEAPS, HEAPS[1:]):
            before = [one.carts(), other.carts()]
            both = one + other
            for cart in [*one, *other]:
                self.assertEqual(both[cart], one[cart] + other[cart])
            self.assertEqual(both.count(), one.count() + other.count())
            self.assertEqual(both, other + one)
            self.assertEqual(both - other, one)
            self.assertEqual([one.carts(), other.carts()], before)
        self.assertIs(type(HEAP + EMPTY), Heap)

    def test_differences(self):
        self.assertEqual((HEAP - Heap({AB: 2, TURN: 1, DD: GREAT - 1})).carts(), {TURN: 2, BC: 1, DD: 1})
        self.assertEqual(HEAP - HEAP, EMPTY)
        self.assertEqual(HEAP - EMPTY, HEAP)
        with self.assertRaises(Missing) as caught:
            HEAP - Heap({DD: GREAT + 1, CC: 1, BC: 1, AB: 2})
        self.assertEqual(caught.exception.cart, CC)
        with self.assertRaises(Missing) as caught:
            Heap({AB: 1}) - Heap({AB: 1, DD: 1, TURN: 1})
        self.assertEqual(caught.exception.cart, TURN)

    def test_products(self):
        for heap in HEAPS:
            before = heap.carts()
            self.assertEqual([0 * heap, heap * 0], [EMPTY, EMPTY])
            self.assertEqual([1 * heap, heap * 1], [heap, heap])
            for number in [2, 7, GREAT]:
                expected = {cart: number * many for cart, many in before.items()}
                self.assertEqual([(number * heap).carts(), (heap * number).carts()], [expected, expected])
            self.assertEqual(heap.carts(), before)
        self.assertEqual(3 * HEAP, HEAP + HEAP + HEAP)

    def test_is_within(self):
        self.assertIs(HEAP.is_within(HEAP), True)
        self.assertIs(EMPTY.is_within(HEAP), True)
        self.assertIs(EMPTY.is_within(EMPTY), True)
        self.assertIs(HEAP.is_within(EMPTY), False)
        self.assertIs(HEAP.is_within(HEAP.put(BA)), True)
        self.assertIs(HEAP.put(BA).is_within(HEAP), False)
        self.assertIs(HEAP.is_within(HEAP.put(CC, 9).out(DD)), False)
        for one, other in zip(HEAPS, HEAPS[1:]):
            expected = all(one[cart] <= other[cart] for cart in one)
            self.assertIs(one.is_within(other), expected)
            self.assertIs(one.is_within(one + other), True)

    def test_equality(self):
        self.assertIs(Heap({AB: 1, BC: 2}) == Heap({BC: 2, AB: 1}), True)
        self.assertIs(Heap({AB: 1}) == Heap({AB: 2}), False)
        self.assertIs(Heap({AB: 1}) == Heap({TURN: 1}), False)
        self.assertIs(Heap({AB: 1}) == Heap({AB: 1, BC: 1}), False)
        self.assertIs(Heap({AB: 1}) != Heap({AB: 1}), False)
        self.assertIs(Heap({AB: 1}) != EMPTY, True)
        self.assertIs(EMPTY == Heap({}), True)

    def test_a_heap_is_equal_to_nothing_else(self):
        for thing in [HEAP.carts(), list(HEAP), 0, AB, object(), unittest.mock.ANY, *strange_values()]:
            self.assertIs(HEAP == thing, False)
            self.assertIs(HEAP != thing, True)
            self.assertIs(EMPTY == thing, False)

    def test_renamed(self):
        names = {"a": "x", "b": "b", "c": "a", "d": "longname", "q": "r"}
        renamed = HEAP.renamed(names)
        self.assertEqual(renamed.carts(), {
            ("x", "b", False): 2, ("b", "x", True): 3, ("a", "b", True): 1, ("longname", "longname", False): GREAT})
        self.assertEqual(list(renamed), sorted(renamed.carts()))
        self.assertEqual(names, {"a": "x", "b": "b", "c": "a", "d": "longname", "q": "r"})
        self.assertEqual(HEAP.kinds(), ["a", "b", "c", "d"])
        self.assertEqual(EMPTY.renamed({}), EMPTY)
        self.assertEqual(EMPTY.renamed(names), EMPTY)

    def test_renamed_and_back(self):
        names = {"a": "c", "b": "a", "c": "dd", "dd": "b", "d": "e"}
        back = {there: here for here, there in names.items()}
        for heap in HEAPS:
            renamed = heap.renamed(names)
            self.assertTrue(all(is_cart(cart) for cart in renamed))
            self.assertEqual(renamed.renamed(back), heap)
            self.assertEqual(renamed.odd(), sorted(names[kind] for kind in heap.odd()))
            lots = [lot.renamed(names) for lot in heap.lots()]
            self.assertTrue(all(lot in lots for lot in renamed.lots()) and len(lots) == len(renamed.lots()))
            self.assertEqual([renamed.hooks(names[kind]) for kind in names], [heap.hooks(kind) for kind in names])

    def test_about(self):
        self.assertEqual(HEAP.about().carts(), {BA: 2, TURN: 3, BC: 1, DD: GREAT})
        self.assertEqual(Heap({AB: 2, BA: 5}).about(), Heap({AB: 5, BA: 2}))
        self.assertEqual(list(Heap({("a", "c", False): 2, BA: 5}).about()), [AB, ("c", "a", False)])
        for heap in HEAPS:
            self.assertEqual(heap.about().about(), heap)
            self.assertTrue(all(is_cart(cart) for cart in heap.about()))
        self.assertEqual(HEAP[AB], 2)

    def test_heaps_of_many_carts(self):
        names = [f"{one}{other}" for one in "abcdefghijklmnopqrst" for other in "abcdefghijklmnopqrst"]
        chain = Heap({(one, other, False): 2 for one, other in zip(names, names[1:])})
        self.assertEqual([len(chain.kinds()), len(chain.lots()), chain.odd()], [400, 1, []])
        loops = Heap({(name, name, True): GREAT for name in names})
        self.assertEqual([lot.kinds() for lot in loops.lots()], [[name] for name in names])

    def test_the_example_of_the_document(self):
        heap = Heap({AB: 2, BC: 1, DD: 10 ** 30})
        told = [heap[AB], heap.kinds(), heap.hooks("b"), heap.odd(), [len(lot) for lot in heap.lots()],
                heap.about()[("b", "a", False)]]
        self.assertEqual(told, [2, ["a", "b", "c", "d"], 3, ["b", "c"], [2, 1], 2])
        told = [(heap + heap).odd(), (3 * heap - heap).count() - 2 * 10 ** 30, heap.is_within(2 * heap),
                (2 * heap).is_within(heap)]
        self.assertEqual(told, [[], 6, True, False])
