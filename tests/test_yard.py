import copy
import random
import unittest

from hookcarts.carts import cart_of
from hookcarts.errors import Fixed, Loose, Missing, NoPlace, Nothing, Refused, Wrong
from hookcarts.fewest import fewest
from hookcarts.heaps import Heap
from hookcarts.longtrains import carts_of, is_train, length, train_about, train_ends
from hookcarts.yard import Yard, is_deed
from tests.things import GREAT, has_twice, long_row, some_heaps, strange_values
from tests.yards import DEEDS, NO_DEEDS, RING, PlainYard, some_deed

AB, BA, TURN = cart_of("a", "b"), cart_of("b", "a"), cart_of("a", "b", turns=True)
BC, CC, DD = cart_of("b", "c", turns=True), cart_of("c", "c", turns=True), cart_of("d", "d")
EMPTY = Heap({})
HEAP = Heap({AB: 5, BA: 5, TURN: 5, BC: 5, CC: 5, DD: 5})


class DeedsTest(unittest.TestCase):
    def test_is_deed(self):
        for deed in DEEDS:
            self.assertIs(is_deed(deed), True, deed)

    def test_is_no_deed(self):
        for thing in NO_DEEDS:
            self.assertIs(is_deed(thing), False, repr(thing))
        for thing in strange_values():
            for value in [thing, (thing,), (thing, 1), ("put", thing, 1), ("put", AB, thing), ("out", AB, thing),
                          ("lay", thing), ("lay", [thing]), ("lay", [(1, thing)]), ("join", thing, 1), ("join", 0, thing),
                          ("cut", 0, thing), ("cut", thing, 1), ("turn", thing), ("loose", thing)]:
                self.assertIs(is_deed(value), False, repr(value)[:80])

    def test_wrong(self):
        yard = Yard(HEAP)
        for thing in [*NO_DEEDS, *strange_values()]:
            with self.assertRaises(Wrong) as caught:
                yard.do(thing)
            self.assertEqual(caught.exception.place, 0)
        self.assertEqual([yard.log(), yard.free(), yard.trains()], [[], HEAP, []])


class YardTest(unittest.TestCase):
    def yard(self, *trains, heap=HEAP):
        yard = Yard(heap)
        for train in trains:
            yard.do(("lay", train))
        return yard

    def assert_error(self, error, told, call, *arguments):
        with self.assertRaises(error) as caught:
            call(*arguments)
        self.assertIs(type(caught.exception), error)
        fields = vars(caught.exception)
        self.assertEqual([fields[name] for name in fields if name != "told"], told)

    def assert_refuses(self, yard, deed, error, *told):
        """Check that a deed raises an error, and changes nothing."""
        before = [yard.log(), yard.free(), yard.trains(), yard.pieces()]
        self.assert_error(error, list(told), yard.do, deed)
        self.assert_error(Refused, [deed], yard.do_all, [deed])
        self.assertEqual([yard.log(), yard.free(), yard.trains(), yard.pieces()], before)

    def test_a_new_yard(self):
        yard = Yard(HEAP)
        self.assertEqual([yard.free(), yard.trains(), yard.log(), yard.pieces()], [HEAP, [], [], 30])
        self.assertEqual([yard.standing(), yard.fewest()], [HEAP, fewest(HEAP)])
        empty = Yard(EMPTY)
        self.assertEqual([empty.free(), empty.trains(), empty.pieces(), empty.fewest(), empty.advice()], [EMPTY, [], 0, 0, []])

    def test_put_and_out(self):
        yard = Yard(Heap({AB: 2}))
        yard.do(("put", BA, GREAT))
        yard.do(("put", AB, 1))
        self.assertEqual(yard.free(), Heap({AB: 3, BA: GREAT}))
        yard.do(("out", AB, 3))
        yard.do(("out", BA, 1))
        self.assertEqual(yard.free(), Heap({BA: GREAT - 1}))
        self.assert_refuses(yard, ("out", BA, GREAT), Missing, BA)
        self.assert_refuses(yard, ("out", AB, 1), Missing, AB)
        yard.do(("lay", [(1, [(BA, False)])]))
        self.assert_refuses(yard, ("out", BA, GREAT - 1), Missing, BA)
        yard.do(("out", BA, GREAT - 2))
        self.assertEqual(yard.free(), EMPTY)

    def test_lay(self):
        one, other = [(2, RING), (1, [(AB, False)])], [(1, [(BC, False)]), (3, [(CC, False)])]
        yard = self.yard(one, other)
        self.assertEqual(yard.trains(), [one, other])
        self.assertEqual(yard.free(), Heap({AB: 2, BA: 3, TURN: 5, BC: 4, CC: 2, DD: 5}))
        self.assertEqual(yard.pieces(), 23)
        for train, cart in [([(3, RING)], AB), ([(4, RING)], AB), ([(1, [(DD, False)] * 6)], DD),
                            ([(1, [(BC, True), (TURN, True)]), (4, [(TURN, False), (TURN, True)])], TURN),
                            ([(3, [(CC, False)]), (GREAT, [(BC, True), (BC, False)])], BC),
                            ([(1, [(cart_of("zz", "a"), False)]), (9, RING)], AB)]:
            short = [cart for cart in carts_of(train) if carts_of(train)[cart] > yard.free()[cart]]
            self.assertEqual(short[0], cart)
            self.assert_refuses(yard, ("lay", train), Missing, cart)

    def test_great_trains(self):
        yard = Yard(Heap({AB: GREAT, BA: GREAT, TURN: GREAT}))
        yard.do(("lay", [(GREAT, RING)]))
        yard.do(("lay", [(GREAT // 2, [(TURN, False), (TURN, True)])]))
        self.assertEqual([yard.free(), yard.pieces()], [EMPTY, 2])
        yard.do(("cut", 0, GREAT + 1))
        half = GREAT // 2
        self.assertEqual(yard.trains()[:2], [[(half, RING), (1, RING[:1])], [(1, RING[1:]), (half - 1, RING)]])
        self.assert_refuses(yard, ("cut", 1, GREAT - 1), NoPlace, GREAT - 1)
        yard.do(("turn", 2))
        yard.do(("cut", 2, GREAT - 1))
        self.assertEqual(yard.trains()[2:], [[(half - 1, [(TURN, False), (TURN, True)]), (1, [(TURN, False)])],
                                             [(1, [(TURN, True)])]])
        yard.do(("loose", 1))
        self.assertEqual(yard.free(), Heap({AB: half - 1, BA: half}))

    def test_join(self):
        one, two, three = [(2, RING)], [(1, [(AB, False)])], [(1, [(BC, False)]), (2, [(CC, False)])]
        yard = self.yard(one, two, three)
        yard.do(("join", 0, 1))
        self.assertEqual(yard.trains(), [[*one, *two], three])
        yard.do(("join", 0, 1))
        self.assertEqual(yard.trains(), [[*one, *two, *three]])
        yard = self.yard(two, three, one)
        yard.do(("join", 2, 0))
        self.assertEqual(yard.trains(), [three, [*one, *two]])
        yard = self.yard(three, one, two)
        yard.do(("join", 2, 0))
        self.assertEqual(yard.trains(), [one, [*two, *three]])
        self.assertEqual(yard.pieces(), 30 - 8 + 2)

    def test_join_errors(self):
        yard = self.yard([(1, RING)], [(1, [(BC, True)])], [(1, [(AB, False)])])
        for deed, index in [(("join", 3, 0), 3), (("join", 7, 9), 7), (("join", GREAT, GREAT), GREAT), (("join", 0, 3), 3),
                            (("join", 1, GREAT), GREAT), (("join", 0, 0), 0), (("join", 2, 2), 2), (("join", 3, 3), 3)]:
            self.assert_refuses(yard, deed, NoPlace, index)
        for deed in [("join", 0, 1), ("join", 1, 0), ("join", 2, 0)]:
            self.assert_refuses(yard, deed, Loose)
        self.assert_refuses(Yard(HEAP), ("join", 0, 0), NoPlace, 0)

    def test_cut(self):
        turn = [(TURN, False), (TURN, True)]
        parts = [(2, RING), (1, [(AB, False), (BA, False), (AB, False)]), (1, [(BA, False)])]
        told = [
            (1, [(1, RING[:1])], [(1, RING[1:]), (1, RING), *parts[1:]]),
            (2, [(1, RING)], [(1, RING), *parts[1:]]),
            (3, [(1, RING), (1, RING[:1])], [(1, RING[1:]), *parts[1:]]),
            (4, [(2, RING)], parts[1:]),
            (5, [(2, RING), (1, [(AB, False)])], [(1, [(BA, False), (AB, False)]), parts[2]]),
            (6, [(2, RING), (1, RING)], [(1, [(AB, False)]), parts[2]]),
            (7, parts[:2], [parts[2]]),
        ]
        for at, ahead, behind in told:
            yard = self.yard([(1, turn)], parts, [(1, [(DD, False)])])
            yard.do(("cut", 1, at))
            self.assertEqual(yard.trains(), [[(1, turn)], ahead, behind, [(1, [(DD, False)])]])
            self.assertEqual(yard.pieces(), 30 - 11 + 4)
            self.assertTrue(all(is_train(train) for train in yard.trains()))
        yard = self.yard([(1, turn)], parts)
        for at in [8, 9, GREAT]:
            self.assert_refuses(yard, ("cut", 1, at), NoPlace, at)
        for at in [2, 3]:
            self.assert_refuses(yard, ("cut", 0, at), NoPlace, at)
        self.assert_refuses(yard, ("cut", 2, 1), NoPlace, 2)
        self.assert_refuses(yard, ("cut", 2, GREAT), NoPlace, 2)

    def test_turn(self):
        train = [(2, [(TURN, False), (TURN, True)]), (1, [(TURN, False), (BC, False)]), (2, [(CC, False)])]
        yard = self.yard([(1, RING)], train)
        yard.do(("turn", 1))
        self.assertEqual(yard.trains(), [[(1, RING)], [(2, [(CC, False)]), (1, [(BC, True), (TURN, True)]),
                                                      (2, [(TURN, False), (TURN, True)])]])
        self.assertEqual(yard.trains()[1], train_about(train))
        yard.do(("turn", 1))
        self.assertEqual(yard.trains()[1], train)
        self.assert_refuses(yard, ("turn", 0), Fixed, 0)
        self.assert_refuses(yard, ("turn", 2), NoPlace, 2)
        great = Yard(Heap({TURN: GREAT, AB: 1, BC: 2}))
        great.do(("lay", [(GREAT // 2, [(TURN, False), (TURN, True)]), (1, [(AB, False), (BC, False)])]))
        self.assert_refuses(great, ("turn", 0), Fixed, GREAT)

    def test_loose(self):
        yard = self.yard([(1, RING)], [(2, RING)], [(1, [(DD, False)])])
        yard.do(("loose", 1))
        self.assertEqual(yard.trains(), [[(1, RING)], [(1, [(DD, False)])]])
        self.assertEqual(yard.free(), HEAP - Heap({AB: 1, BA: 1, DD: 1}))
        self.assert_refuses(yard, ("loose", 2), NoPlace, 2)
        yard.do(("loose", 0))
        yard.do(("loose", 0))
        self.assertEqual([yard.free(), yard.trains()], [HEAP, []])
        self.assert_refuses(yard, ("loose", 0), NoPlace, 0)

    def test_back_and_again(self):
        yard = Yard(HEAP)
        self.assert_error(Nothing, [], yard.back)
        self.assert_error(Nothing, [], yard.again)
        deeds = [("lay", [(1, RING)]), ("put", DD, 7), ("cut", 0, 1)]
        for deed in deeds:
            self.assertIsNone(yard.do(deed))
        self.assert_error(Nothing, [], yard.again)
        self.assertEqual(yard.log(), deeds)
        self.assertIsNone(yard.back())
        self.assertEqual([yard.log(), yard.trains()], [deeds[:2], [[(1, RING)]]])
        yard.back()
        self.assertEqual([yard.log(), yard.free()[DD]], [deeds[:1], 5])
        self.assertIsNone(yard.again())
        self.assertEqual([yard.log(), yard.free()[DD]], [deeds[:2], 12])
        # A deed that raises an error counts as none.
        self.assert_error(NoPlace, [5], yard.do, ("turn", 5))
        self.assert_error(Wrong, [0], yard.do, None)
        yard.again()
        self.assertEqual([yard.log(), len(yard.trains())], [deeds, 2])
        yard.back()
        yard.do(("loose", 0))
        self.assert_error(Nothing, [], yard.again)
        self.assertEqual(yard.log(), [*deeds[:2], ("loose", 0)])
        for _ in range(3):
            yard.back()
        self.assert_error(Nothing, [], yard.back)
        self.assertEqual([yard.log(), yard.free(), yard.trains()], [[], HEAP, []])
        for _ in range(3):
            yard.again()
        self.assert_error(Nothing, [], yard.again)
        self.assertEqual(yard.log(), [*deeds[:2], ("loose", 0)])

    def test_do_all(self):
        yard = Yard(HEAP)
        deeds = [("lay", [(1, RING)]), ("lay", [(1, [(AB, False)])]), ("join", 0, 1), ("put", DD, 1)]
        self.assertIsNone(yard.do_all(deeds))
        self.assertEqual(yard.log(), deeds)
        self.assertEqual(yard.trains(), [[(1, RING), (1, [(AB, False)])]])
        yard.back()
        self.assertEqual(yard.log(), deeds[:3])
        yard.back()
        self.assertEqual(len(yard.trains()), 2)
        self.assertIsNone(yard.do_all([]))
        yard.again()
        self.assertEqual(yard.log(), deeds[:3])

    def test_refused(self):
        yard = Yard(HEAP)
        yard.do_all([("lay", [(1, RING)]), ("put", DD, 1), ("put", CC, 2)])
        yard.back()
        yard.back()
        good = ("lay", [(1, [(AB, False)])])
        for wrong in [("cut", 0, 2), ("out", DD, 6), ("turn", 0), ("loose", 2), ("join", 1, 0), ("lay", [(5, RING)]),
                      *NO_DEEDS, *strange_values()]:
            for deeds in [[wrong], [good, wrong], [good, good, wrong, good], [wrong, ("turn", 99)], [good, wrong, None]]:
                if wrong == ("loose", 2) and len(deeds) == 4 or wrong == ("join", 1, 0) and len(deeds) != 1:
                    continue
                before = copy.copy(deeds)
                with self.assertRaises(Refused) as caught:
                    yard.do_all(deeds)
                self.assertIs(caught.exception.deed, wrong)
                self.assertEqual(deeds, before)
                self.assertEqual([yard.log(), yard.free(), yard.trains()],
                                 [[("lay", [(1, RING)])], HEAP - Heap({AB: 1, BA: 1}), [[(1, RING)]]])
        # What can be done again is as before, too.
        yard.again()
        yard.again()
        self.assertEqual(yard.free(), (HEAP - Heap({AB: 1, BA: 1})).put(DD).put(CC, 2))
        self.assert_error(Nothing, [], yard.again)

    def test_copied(self):
        yard = self.yard([(1, RING)], [(2, RING)])
        yard.do(("put", DD, 1))
        yard.back()
        twin = yard.copied()
        self.assertIs(type(twin), Yard)
        state = [yard.log(), yard.free(), yard.trains()]
        self.assertEqual([twin.log(), twin.free(), twin.trains()], state)
        twin.again()
        twin.do(("join", 0, 1))
        self.assertEqual([yard.log(), yard.free(), yard.trains()], state)
        self.assertEqual([twin.free()[DD], twin.trains()], [6, [[(1, RING), (2, RING)]]])
        yard.again()
        yard.back()
        yard.back()
        yard.do(("loose", 0))
        self.assertEqual([twin.log()[-1], len(twin.log()), twin.free()[DD]], [("join", 0, 1), 4, 6])
        for _ in range(4):
            twin.back()
        self.assertEqual([twin.free(), yard.log()], [HEAP, [("lay", [(1, RING)]), ("loose", 0)]])

    def test_what_is_passed_is_copied(self):
        row = list(RING)
        train = [(1, row)]
        deeds = [("lay", train)]
        yard = Yard(HEAP)
        yard.do(deeds[0])
        yard.do_all(deeds)
        row.clear()
        train.clear()
        deeds.clear()
        self.assertEqual(yard.trains(), [[(1, RING)], [(1, RING)]])
        self.assertEqual(yard.log(), [("lay", [(1, RING)])] * 2)
        yard.back()
        yard.again()
        self.assertEqual(yard.trains(), [[(1, RING)], [(1, RING)]])

    def test_what_is_returned_is_new(self):
        yard = self.yard([(2, RING)], [(2, RING)])
        yard.do(("cut", 0, 2))
        told = [copy.deepcopy(yard.trains()), copy.deepcopy(yard.log())]
        for _ in range(2):
            for listed in [yard.trains(), yard.log()]:
                self.assertFalse(has_twice(listed))
            trains, log = yard.trains(), yard.log()
            trains[0][0][1].clear()
            trains[1].clear()
            trains.clear()
            log[0][1][0][1].append(None)
            log[0][1].clear()
            log.clear()
            self.assertEqual([yard.trains(), yard.log()], told)
        yard.free().carts().clear()
        yard.do(("loose", 0))
        self.assertEqual(yard.free(), HEAP - Heap({AB: 3, BA: 3}))
        self.assertIsNot(yard.free(), yard.free())

    def test_standing(self):
        yard = self.yard([(1, RING)], [(1, [(TURN, True), (TURN, False), (BC, False)])], [(1, [(BC, True), (BA, False)])],
                         [(2, [(CC, False)])], [(1, [(TURN, False)])], [(1, [(BC, True), (TURN, True)])])
        standing = yard.free().carts()
        for cart in [("a", "a", False), BC, ("c", "a", False), CC, TURN, ("a", "c", True)]:
            standing[cart] = standing.get(cart, 0) + 1
        self.assertEqual(yard.standing(), Heap(standing))
        self.assertEqual(yard.standing().count(), yard.pieces())
        self.assertEqual(yard.fewest(), fewest(Heap(standing)))
        self.assertEqual(list(yard.standing().carts()), sorted(standing))

    def test_standing_of_many_yards(self):
        source = random.Random(5)
        for heap in some_heaps(25, ["a", "b", "c"], 5, [1, 2, 3]):
            plain, yard = PlainYard(heap), Yard(heap)
            for _ in range(30):
                deed = some_deed(source, plain)
                if plain.expected(deed) is None:
                    plain.do(deed)
                    yard.do(deed)
            standing = dict(plain.free)
            for train in plain.trains:
                first, last = train_ends(train)
                cart = cart_of(first, last, turns=all(step[0][2] for step in long_row(train)))
                standing[cart] = standing.get(cart, 0) + 1
            self.assertEqual(yard.standing(), Heap(standing))
            self.assertEqual(yard.fewest(), fewest(Heap(standing)))

    def test_long_lists_of_deeds(self):
        source = random.Random(17)
        raised = {}
        for _ in range(12):
            plain, yard = PlainYard(HEAP), Yard(HEAP)
            states, undone = [(copy.deepcopy(plain), None)], []
            for _ in range(150):
                choice = source.random()
                if choice < 0.15 and len(states) > 1:
                    undone.append(states.pop())
                    yard.back()
                elif choice < 0.25 and undone:
                    states.append(undone.pop())
                    yard.again()
                else:
                    deed = some_deed(source, states[-1][0])
                    expected = states[-1][0].expected(deed)
                    if expected is None:
                        after = copy.deepcopy(states[-1][0])
                        after.do(deed)
                        states.append((after, deed))
                        undone = []
                        yard.do(deed)
                    else:
                        raised[expected[0]] = raised.get(expected[0], 0) + 1
                        self.assert_refuses(yard, deed, expected[0], *[one for one in expected[1:] if one is not None])
                told = states[-1][0]
                self.assertEqual([yard.free().carts(), yard.trains()], [told.free, told.trains])
                self.assertEqual(yard.log(), [deed for _, deed in states[1:]])
                self.assertEqual(yard.pieces(), sum(told.free.values()) + len(told.trains))
            deeds = yard.log()
            again = Yard(HEAP)
            again.do_all(deeds)
            self.assertEqual([again.free(), again.trains(), again.log()], [yard.free(), yard.trains(), deeds])
            for state, _ in states[-2::-1]:
                again.back()
                self.assertEqual([again.free().carts(), again.trains()], [state.free, state.trains])
            self.assert_error(Nothing, [], again.back)
            for state, _ in states[1:]:
                again.again()
                self.assertEqual([again.free().carts(), again.trains()], [state.free, state.trains])
        self.assertEqual(set(raised), {Missing, NoPlace, Loose, Fixed})

    def test_many_deeds(self):
        yard = Yard(EMPTY)
        yard.do_all([("put", AB, 1)] * 1500)
        for _ in range(1500):
            yard.do(("lay", [(1, [(AB, False)])]))
        self.assertEqual([len(yard.log()), yard.pieces(), yard.free()], [3000, 1500, EMPTY])
        for _ in range(3000):
            yard.back()
        self.assertEqual([yard.log(), yard.pieces()], [[], 0])


class AdviceTest(unittest.TestCase):
    def assert_followed(self, yard):
        """Follow the advice to the end, and check each one; return how long they were."""
        found = []
        while yard.pieces() > yard.fewest():
            pieces, number, state = yard.pieces(), yard.fewest(), [yard.log(), yard.trains(), yard.free()]
            deeds = yard.advice()
            self.assertEqual([yard.log(), yard.trains(), yard.free()], state)
            self.assertEqual(deeds, yard.advice())
            self.assertFalse(has_twice(deeds))
            self.assertIs(type(deeds), list)
            self.assertTrue(1 <= len(deeds) <= 3)
            self.assertEqual(deeds[-1][0], "join")
            for deed in deeds[:-1]:
                self.assertTrue(deed[0] == "turn" or deed[0] == "lay" and length(deed[1]) == 1, deed)
            yard.do_all(deeds)
            self.assertEqual([yard.pieces(), yard.fewest()], [pieces - 1, number])
            found.append(tuple(deed[0] for deed in deeds))
        self.assertEqual(yard.advice(), [])
        return found

    def test_free_carts(self):
        self.assertEqual(Yard(Heap({AB: 1})).advice(), [])
        self.assertEqual(Yard(Heap({AB: 3})).advice(), [])
        self.assertEqual(Yard(Heap({AB: GREAT, DD: 1})).advice(), [])
        for heap in some_heaps(60, ["a", "b", "c"], 6, [1, 2, 3]):
            self.assert_followed(Yard(heap))

    def test_yards_of_many_deeds(self):
        source = random.Random(23)
        found = set()
        for heap in some_heaps(60, ["a", "b", "c"], 5, [1, 2, 3]):
            plain, yard = PlainYard(heap), Yard(heap)
            for _ in range(25):
                deed = some_deed(source, plain)
                if plain.expected(deed) is None and DD not in deed and deed != ("lay", [(1, [(DD, False)])]):
                    plain.do(deed)
                    yard.do(deed)
            found.update(self.assert_followed(yard))
        words = {tuple(sorted(deeds[:-1])) for deeds in found}
        self.assertLessEqual({(), ("turn",), ("lay",), ("lay", "lay"), ("lay", "turn")}, words)

    def test_two_trains_alike(self):
        yard = Yard(Heap({TURN: 2}))
        yard.do_all([("lay", [(1, [(TURN, False)])]), ("lay", [(1, [(TURN, False)])])])
        self.assertEqual([self.assert_followed(yard), yard.pieces()], [[("turn", "join")], 1])
        yard = Yard(Heap({TURN: 2}))
        yard.do(("lay", [(1, [(TURN, True)])]))
        self.assertEqual(len(self.assert_followed(yard)), 1)

    def test_great_yards(self):
        yard = Yard(Heap({AB: GREAT, BA: GREAT, TURN: 3, BC: GREAT}))
        for _ in range(12):
            pieces, number = yard.pieces(), yard.fewest()
            yard.do_all(yard.advice())
            self.assertEqual([yard.pieces(), yard.fewest()], [pieces - 1, number])
        yard = Yard(Heap({AB: GREAT, BA: GREAT}))
        yard.do(("lay", [(GREAT - 1, RING)]))
        self.assertEqual(len(self.assert_followed(yard)), 2)
        self.assertEqual(yard.pieces(), 1)
