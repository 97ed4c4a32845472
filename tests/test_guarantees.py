"""What the document guarantees over the whole program, [5] to [12]."""

import random
import unittest

from hookcarts.alikes import alike, telling
from hookcarts.buying import bill, cheapest, is_bill
from hookcarts.carts import begin_of, cart_of, end_of
from hookcarts.desk import Desk
from hookcarts.ends import always_ends, ends, most_begins, most_ends
from hookcarts.errors import NoAdapters
from hookcarts.fewest import fewest, shown
from hookcarts.heaps import Heap
from hookcarts.indexes import nth, place_of, rows_of
from hookcarts.known import Known
from hookcarts.leasts import least_fewest
from hookcarts.longtrains import carts_of, train_ends
from hookcarts.mosts import most_fewest
from hookcarts.neighbours import can_stand, couples, fewest_with, held, standing
from hookcarts.notation import heap_text, train_text
from hookcarts.readers import read_heap, read_train
from hookcarts.shops import links_missing, linking, price_of
from hookcarts.splits import heap_in, how_many, split_ends
from hookcarts.strains import greatest, strain, worst
from hookcarts.sures import heap_with, possible_ends
from hookcarts.trains import led, one_train, ring, trains, trains_by
from hookcarts.turnings import best_turning, spread
from hookcarts.ways import begins, turnings_told, ways, ways_led
from hookcarts.yard import Yard
from tests.things import (GREAT, all_carts, all_sides, all_turnings, known_renamed, plain_fewest, some_heaps, some_knowns,
                          some_shops, stands_in)

SMALL = some_heaps(90, ["a", "b", "c", "d"], 5, [1, 2, 3])
FEW = [heap for heap in some_heaps(150, ["a", "b", "c"], 4, [1, 2]) if 0 < heap.count() < 7]
LARGE = some_heaps(40, ["a", "b", "c", "d"], 12, [1, 2, GREAT, GREAT - 1, GREAT - 6, GREAT // 3, 10 ** 15])
ALL = [Heap({}), *SMALL, *LARGE]
KNOWNS = some_knowns(40, ["a", "b", "c", "d"], 5, 3)
SHOPS = some_shops(len(ALL), ["a", "b", "c", "d"], [1, 3, 1000])
NAMES = {"a": "d", "b": "a", "c": "zz", "d": "b"}
ABOUT = [("a", "b"), ("b", "c"), ("c", "a")]


def some_turning(source, heap):
    """Return one of the turnings of a heap."""
    return {cart: source.randrange(heap[cart] + 1) for cart in heap if cart[2] and cart[0] != cart[1]}


class StrainsTest(unittest.TestCase):
    """[5]"""

    def test_no_strain_is_greater_than_any_spread(self):
        source = random.Random(5)
        for heap in ALL:
            least = spread(heap, best_turning(heap))
            spreads = [spread(heap, some_turning(source, heap)) for _ in range(9)]
            self.assertLessEqual(least, min(spreads))
            strains = [strain(heap, highs, lows) for highs, lows in all_sides(heap.kinds())]
            self.assertEqual([max(strains), greatest(heap), strain(heap, *worst(heap))], [least] * 3)

    def test_lots(self):
        for heap in ALL:
            for highs, lows in all_sides(heap.kinds()):
                strains = [strain(lot, highs, lows) for lot in heap.lots()]
                self.assertEqual(strain(heap, highs, lows), sum(strains))
                self.assertFalse(any(number % 2 for number in strains))


class FewestTest(unittest.TestCase):
    """[6]"""

    def test_fewest(self):
        for heap in ALL:
            number = sum(max(1, greatest(lot) // 2) for lot in heap.lots())
            split = trains(heap)
            self.assertEqual([fewest(heap), how_many(split), shown(heap, *worst(heap))], [number] * 3)
            self.assertEqual(heap_in(split), heap)
            self.assertEqual(how_many(trains_by(heap, best_turning(heap))), number)
            self.assertEqual(links_missing(heap), max(0, number - 1))

    def test_no_split_has_fewer(self):
        for heap in SMALL:
            self.assertEqual(fewest(heap), plain_fewest(heap))

    def test_a_yard_comes_to_the_fewest(self):
        for heap in FEW[:40]:
            yard = Yard(heap)
            while yard.advice():
                yard.do_all(yard.advice())
            self.assertEqual([yard.pieces(), yard.fewest()], [fewest(heap)] * 2)
            for _ in yard.trains():
                yard.do(("loose", 0))
            self.assertEqual(yard.free(), heap)

    def test_texts(self):
        for heap in ALL:
            self.assertEqual(read_heap(heap_text(heap)), heap)
            desk = Desk(heap)
            for times, train in trains(heap):
                self.assertGreater(times, 0)
                self.assertEqual(read_train(train_text(train)), train)
                self.assertEqual(desk.execute(f"lay {train_text(train)}"), "done")
            self.assertEqual(desk.execute("trains"), str(len(trains(heap))))


class OneTrainTest(unittest.TestCase):
    """[7]"""

    def test_one_train(self):
        seen = set()
        for heap in ALL:
            one = len(heap.lots()) == 1 and greatest(heap) <= 2
            train = one_train(heap)
            self.assertEqual([train is not None, fewest(heap) == 1, ends(heap) != []], [one] * 3)
            odd = heap.odd()
            seen.add((one, len(odd)))
            if one:
                self.assertEqual(carts_of(train), heap.carts())
                self.assertEqual(ring(heap) is not None, odd == [])
                for first, last in ends(heap):
                    self.assertEqual(sorted({first, last}) if odd else [first], odd if odd else [last])
                    self.assertEqual(train_ends(led(heap, first, last)), (first, last))
        self.assertLessEqual({(True, 0), (True, 2), (False, 0), (False, 2)}, seen)

    def test_what_is_bought_makes_one_train(self):
        good = 0
        for heap, shop in zip(ALL, SHOPS):
            try:
                purchase = cheapest(heap, shop)
            except NoAdapters:
                self.assertIs(is_bill(heap, shop, GREAT, bill(heap, shop, GREAT)), True)
                continue
            good += 1
            self.assertIsNotNone(one_train(heap + Heap(purchase)))
            self.assertIsNone(bill(heap, shop, price_of(shop, purchase) + 1))
        self.assertGreater(good, 10)
        for heap in SMALL:
            self.assertEqual(one_train(heap + linking(heap)) is None, len(heap) == 0)


class CartsMoreTest(unittest.TestCase):
    """[8]"""

    def test_one_cart_more(self):
        for heap in [*SMALL[:40], *LARGE[:15]]:
            for cart in all_carts(["a", "b", "c", "e"]):
                self.assertIn(fewest(heap.put(cart)) - fewest(heap), [-1, 0, 1])

    def test_each_number_between(self):
        for known in KNOWNS:
            for number in range(least_fewest(known), most_fewest(known) + 1):
                heap = heap_with(known, number)
                self.assertEqual([known.fits(heap), fewest(heap)], [True, number])


class AlikeTest(unittest.TestCase):
    """[9]"""

    def test_alike(self):
        source = random.Random(9)
        heaps = [Heap({}), *some_heaps(40, ["a", "b"], 4, [1, 2, 3])]
        furthers = some_heaps(30, ["a", "b", "c"], 4, [1, 2, 5])
        both = {True: 0, False: 0}
        for one in heaps:
            for other in [*source.sample(heaps, 9), one + one, one + Heap({cart: 2 for cart in one if not cart[2]})]:
                together = alike(one, other)
                both[together] += 1
                further = telling(one, other)
                self.assertEqual(further is None, together)
                if further is not None:
                    self.assertNotEqual(fewest(one + further), fewest(other + further))
                else:
                    for more in furthers:
                        self.assertEqual(fewest(one + more), fewest(other + more))
        self.assertGreater(min(both.values()), 5)


class NeighboursTest(unittest.TestCase):
    """[10]"""

    def test_rows_that_stand(self):
        for heap in FEW[:60]:
            rows = list(rows_of(heap))
            parts = {tuple(row[at:at + many]) for row in rows for at in range(len(row)) for many in (1, 2, 3)}
            for part in parts:
                self.assertIs(can_stand(heap, list(part)), True)
            for step, other in couples(heap):
                self.assertIn((step, other), parts)
            for cart in heap:
                row = [(cart, False)]
                stood = any(stands_in(row, whole) for whole in rows)
                self.assertEqual([can_stand(heap, row), one_train(held(heap, row)) is not None, fewest_with(heap, row) == 1,
                                  standing(heap, row) is not None], [stood] * 4)


class WaysTest(unittest.TestCase):
    """[11]"""

    def test_rows_by_turnings(self):
        for heap in FEW:
            rows = list(rows_of(heap))
            self.assertEqual([ways(heap), sum(number for _, number in turnings_told(heap))], [len(rows)] * 2)
            turned = [{cart: row.count((cart, True)) for cart in turning} for turning in all_turnings(heap)[:1] for row in rows]
            self.assertEqual(turnings_told(heap), [(turning, turned.count(turning)) for turning in all_turnings(heap)
                                                   if turning in turned])
            self.assertEqual(sorted({(begin_of(row[0]), end_of(row[-1])) for row in rows}), ends(heap))
            self.assertEqual(ways(heap) > 0, one_train(heap) is not None)
            for index, row in enumerate(rows[:5]):
                self.assertEqual([nth(heap, index), place_of(heap, row)], [row, index])


class ExchangedTest(unittest.TestCase):
    """[12]"""

    def test_kinds(self):
        for heap in ALL:
            other = heap.renamed(NAMES)
            self.assertEqual([fewest(other), greatest(other), links_missing(other)],
                             [fewest(heap), greatest(heap), links_missing(heap)])
            self.assertEqual(spread(other, best_turning(other)), spread(heap, best_turning(heap)))
            self.assertEqual(ends(other), sorted((NAMES[first], NAMES[last]) for first, last in ends(heap)))
            self.assertEqual(always_ends(other), sorted(NAMES[kind] for kind in always_ends(heap)))
        for heap in FEW:
            other = heap.renamed(NAMES)
            self.assertEqual(ways(other), ways(heap))
            self.assertEqual(begins(other), {NAMES[kind]: number for kind, number in begins(heap).items()})
        for known in KNOWNS:
            other = known_renamed(known, NAMES)
            self.assertEqual([least_fewest(other), most_fewest(other)], [least_fewest(known), most_fewest(known)])

    def test_front_and_back(self):
        for heap in ALL:
            other = heap.about()
            self.assertEqual(fewest(other), fewest(heap))
            self.assertEqual(ends(other), sorted((last, first) for first, last in ends(heap)))
            for kind in heap.kinds():
                self.assertEqual([most_begins(other, kind), most_ends(other, kind)],
                                 [most_ends(heap, kind), most_begins(heap, kind)])
        for heap in FEW:
            for first, last in ABOUT:
                self.assertEqual(ways_led(heap.about(), first, last), ways_led(heap, last, first))
        for known in KNOWNS[:20]:
            if sum(known[cart][0] < known[cart][1] for cart in known) <= 3:
                other = Known({cart if cart[2] else cart_of(cart[1], cart[0]): known[cart] for cart in known})
                self.assertEqual(possible_ends(other), sorted((last, first) for first, last in possible_ends(known)))
        self.assertEqual(split_ends(trains(Heap({("a", "b", False): 3}).about())), [("b", "a", 3)])
