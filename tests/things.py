"""Values that several tests use."""

import functools
import random

from hookcarts.carts import begin_of, cart_of, end_of, steps_of
from hookcarts.heaps import Heap
from hookcarts.known import Known

GREAT = 10 ** 30


def nested(depth):
    """Return a list in a list, and so on."""
    thing = []
    for _ in range(depth - 1):
        thing = [thing]
    return thing


def strange_values():
    """Return values of all kinds that are no integer, kind, cart, step, row, train, heap or turning."""
    return [
        None, True, False, "", "A", "aB", "a1", "1", "a b", " a", "a ", "a\n", "-", "abcdefghi", "a" * 4000, "z" * 9,
        b"", b"a", [None], ["a", "b", True], ["a"], [["a"]], [0], [True], {"a"}, set(), frozenset(["a"]), (), ("a",),
        ("a", "b"), ("a", "b", 1), ("a", "b", 0), ("a", "b", None), ("a", "b", "True"), ("a", "b", True, True),
        ("b", "a", True), ("a", 1, True), (1, "b", False), ("A", "b", False), ("a", "", False), ("", "b", False),
        ("a", "abcdefghi", False), ("a", ["b"], False), (["a"], "b", False), ({}, "b", False), ("a", {"b"}, True),
        (("a", "b"), "c", False), (None, None, None), {"a": 1}, {1: "a"}, {("a", "b", 1): 1}, {None: None},
        {("a", "b", True): "1"}, {("b", "a", True): 1}, {("a", "b", False): True}, {("a", "b", False): -1},
        (("a", "b", True), 1), (("a", "b", True), 0), (("a", "b", True), None), (("a", "b", True),),
        (("a", "b", False), True), (("a", "a", True), True), (("a", "a", False), True), (("b", "a", True), False),
        (("a", "b", 1), False), (["a", "b", True], False), [("a", "b", True), False], (("a", "b", True), False, False),
        ((("a", "b", True), False), False), [("a", "b", True)], [1, [(("a", "b", False), False)]],
        [(1, [])], [(0, [(("a", "b", False), False)])], [(True, [(("a", "b", False), False)])],
        nested(20), [0] * 4000, (None,) * 4000, {str(n): n for n in range(1000)}, strange_values, ValueError,
    ]


def some_heaps(many, kinds, most_carts, numbers):
    """Return so many different Heaps, the same in each run: carts of these kinds, as often as one of the numbers."""
    source = random.Random(f"{many} {kinds} {most_carts}")
    heaps = []
    for _ in range(many):
        carts = {}
        for _ in range(source.randrange(most_carts + 1)):
            cart = cart_of(source.choice(kinds), source.choice(kinds), turns=source.random() < 0.5)
            carts[cart] = source.choice(numbers)
        heaps.append(Heap(carts))
    return heaps


def some_knowns(many, kinds, most_carts, width):
    """Return so many Knowns, the same in each run: carts of these kinds, at most four with a range of more numbers."""
    source = random.Random(f"{many} {kinds} {most_carts} {width}")
    knowns = []
    while len(knowns) < many:
        ranges = {}
        for _ in range(1 + source.randrange(most_carts)):
            cart = cart_of(source.choice(kinds), source.choice(kinds), turns=source.random() < 0.4)
            least = source.choice([0, 0, 1, 2])
            ranges[cart] = (least, max(1, least + source.randrange(width + 1)))
        wide = [cart for cart in ranges if ranges[cart][0] < ranges[cart][1]]
        if len(wide) <= 4 and any(least > 0 for least, _ in ranges.values()):
            knowns.append(Known(ranges))
    return knowns


def some_shops(many, kinds, prices):
    """Return so many shops, the same in each run: adapters of these kinds, each with one of the prices."""
    source = random.Random(f"{many} {kinds} {prices}")
    shops = []
    for _ in range(many):
        shop = {}
        for _ in range(source.randrange(4)):
            cart = cart_of(source.choice(kinds), source.choice(kinds), turns=source.random() < 0.4)
            shop[cart] = source.choice(prices)
        shops.append(list(shop.items()))
    return shops


def all_carts(kinds):
    """Return the ascending list of all carts of kinds."""
    pairs = [(one, other) for one in kinds for other in kinds]
    return sorted({cart_of(one, other, turns=turns) for one, other in pairs for turns in (False, True)})


def all_heaps(known):
    """Return all Heaps that fit a Known, of few numbers, in the order of their numbers."""
    found = [{}]
    for cart in known:
        least, most = known[cart]
        found = [{**numbers, cart: number} for numbers in found for number in range(least, most + 1)]
    return [Heap({cart: number for cart, number in numbers.items() if number}) for numbers in found]


def known_renamed(known, names):
    """Return the Known with the kinds that names tells."""
    return Known({next(iter(Heap({cart: 1}).renamed(names))): known[cart] for cart in known})


def all_turnings(heap):
    """Return all turnings of a Heap of few carts."""
    turnings = [{}]
    for cart in heap:
        if cart[2] and cart[0] != cart[1]:
            turnings = [{**turning, cart: number} for turning in turnings for number in range(heap[cart] + 1)]
    return turnings


def all_sides(kinds):
    """Return all highs and lows among these kinds, tuples of two lists."""
    sides = [([], [])]
    for kind in kinds:
        sides = [side for highs, lows in sides
                 for side in ((highs, lows), ([*highs, kind], lows), (highs, [*lows, kind]))]
    return sides


def plain_cheapest(heap, begin_cost, end_cost):
    """Return the least cost of all splits of a Heap of few carts, found by coupling cart by cart.

    A train costs what begin_cost tells of the kind at which it begins, and end_cost of the one at which it ends.
    """
    carts = list(heap)

    @functools.lru_cache(maxsize=None)
    def cheapest(left, at):
        costs = [0 if at is None else end_cost(at)] if not any(left) else []
        for index, cart in enumerate(carts):
            if left[index]:
                rest = (*left[:index], left[index] - 1, *left[index + 1:])
                for step in steps_of(cart):
                    cost = begin_cost(begin_of(step)) + (0 if at is None else end_cost(at))
                    costs.append(cheapest(rest, end_of(step)) + cost)
                    if begin_of(step) == at:
                        costs.append(cheapest(rest, end_of(step)))
        return min(costs)

    return cheapest(tuple(heap[cart] for cart in carts), None)


def plain_fewest(heap):
    """Return the fewest of a Heap of few carts, found by coupling cart by cart."""
    return plain_cheapest(heap, lambda kind: 1, lambda kind: 0)


def whole_rows(heap):
    """Return all rows of all carts of a Heap of few carts, found by coupling cart by cart."""
    found = []
    waiting = [([], heap.carts())]
    while waiting:
        row, left = waiting.pop()
        if row and not left:
            found.append(row)
        for cart in left:
            rest = {one: many - (one == cart) for one, many in left.items() if many > (one == cart)}
            waiting.extend(([*row, step], rest) for step in steps_of(cart)
                           if not row or end_of(row[-1]) == begin_of(step))
    return found


def plain_ways(heap):
    """Return the number of whole rows of a Heap, found by coupling cart by cart and counting what is left once."""
    carts = list(heap)

    @functools.lru_cache(maxsize=None)
    def number(left, at):
        total = 0 if any(left) else 1
        for index, cart in enumerate(carts):
            if left[index]:
                rest = (*left[:index], left[index] - 1, *left[index + 1:])
                total += sum(number(rest, end_of(step)) for step in steps_of(cart) if at in (None, begin_of(step)))
        return total

    return number(tuple(heap.carts().values()), None) if carts else 0


def stands_in(row, longer):
    """Return whether a row stands in a longer one."""
    return any(longer[at:at + len(row)] == row for at in range(len(longer)))


def long_row(train):
    """Return the long row of a train of few steps."""
    return [step for many, row in train for _ in range(many) for step in row]


def lists_in(thing):
    """Return all lists and dicts in a value, itself included."""
    if isinstance(thing, dict):
        return [thing, *(inner for one in [*thing, *thing.values()] for inner in lists_in(one))]
    if isinstance(thing, (list, tuple)):
        own = [thing] if isinstance(thing, list) else []
        return own + [inner for one in thing for inner in lists_in(one)]
    return []


def has_twice(thing):
    """Return whether a list or dict stands twice in a value."""
    places = [id(inner) for inner in lists_in(thing)]
    return len(set(places)) < len(places)
