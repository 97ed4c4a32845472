"""Values that several tests use."""

import random

from hookcarts.carts import cart_of
from hookcarts.heaps import Heap

GREAT = 10 ** 30


def nested(depth):
    """Return a list in a list, and so on."""
    thing = []
    for _ in range(depth - 1):
        thing = [thing]
    return thing


def strange_values():
    """Return values of all kinds that are no integer, kind, cart, step, row, train, heap or turning."""
    return [
        None, True, False, "", "A", "aB", "a1", "1", "a b", " a", "a ", "a\n", "-", "abcdefghi", "a" * 4000, "z" * 9,
        b"", b"a", [None], ["a", "b", True], ["a"], [["a"]], [0], [True], {"a"}, set(), frozenset(["a"]), (), ("a",),
        ("a", "b"), ("a", "b", 1), ("a", "b", 0), ("a", "b", None), ("a", "b", "True"), ("a", "b", True, True),
        ("b", "a", True), ("a", 1, True), (1, "b", False), ("A", "b", False), ("a", "", False), ("", "b", False),
        ("a", "abcdefghi", False), ("a", ["b"], False), (["a"], "b", False), ({}, "b", False), ("a", {"b"}, True),
        (("a", "b"), "c", False), (None, None, None), {"a": 1}, {1: "a"}, {("a", "b", 1): 1}, {None: None},
        {("a", "b", True): "1"}, {("b", "a", True): 1}, {("a", "b", False): True}, {("a", "b", False): -1},
        (("a", "b", True), 1), (("a", "b", True), 0), (("a", "b", True), None), (("a", "b", True),),
        (("a", "b", False), True), (("a", "a", True), True), (("a", "a", False), True), (("b", "a", True), False),
        (("a", "b", 1), False), (["a", "b", True], False), [("a", "b", True), False], (("a", "b", True), False, False),
        ((("a", "b", True), False), False), [("a", "b", True)], [1, [(("a", "b", False), False)]],
        [(1, [])], [(0, [(("a", "b", False), False)])], [(True, [(("a", "b", False), False)])],
        nested(20), [0] * 4000, (None,) * 4000, {str(n): n for n in range(1000)}, strange_values, ValueError,
    ]


def some_heaps(many, kinds, most_carts, numbers):
    """Return so many different Heaps, the same in each run: carts of these kinds, as often as one of the numbers."""
    source = random.Random(f"{many} {kinds} {most_carts}")
    heaps = []
    for _ in range(many):
        carts = {}
        for _ in range(source.randrange(most_carts + 1)):
            cart = cart_of(source.choice(kinds), source.choice(kinds), turns=source.random() < 0.5)
            carts[cart] = source.choice(numbers)
        heaps.append(Heap(carts))
    return heaps


def all_turnings(heap):
    """Return all turnings of a Heap of few carts."""
    turnings = [{}]
    for cart in heap:
        if cart[2] and cart[0] != cart[1]:
            turnings = [{**turning, cart: number} for turning in turnings for number in range(heap[cart] + 1)]
    return turnings


def all_sides(kinds):
    """Return all highs and lows among these kinds, tuples of two lists."""
    sides = [([], [])]
    for kind in kinds:
        sides = [side for highs, lows in sides
                 for side in ((highs, lows), ([*highs, kind], lows), (highs, [*lows, kind]))]
    return sides
