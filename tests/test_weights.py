from itertools import combinations, combinations_with_replacement, permutations, product

from onlyrisers.bounds import mirror
from onlyrisers.errors import NoRiser, NoWeights
from onlyrisers.joins import is_below
from onlyrisers.weights import are_weights, by_weights, is_trade, trade_for, weights_for
from tests.asking import Asking
from tests.making import (BIG, EACH_RISER, NO_RISERS, ODD_THINGS, RISERS, holds_at, riser_where,
                          stands_of)

RISER = (3, ((0,), (1, 2)))
WEIGHTS = ((2, 1, 1), 2)
# At two of four switches, or at the other two: no weights tell it.
TRADED = (4, ((0, 1), (2, 3)))
TRADE = (((0, 1), (2, 3)), ((0, 2), (1, 3)))
# One with trades of more stands a side.
FIVE = (5, ((0, 1, 3), (0, 3, 4), (1, 4), (2, 3), (2, 4)))
TWO_A_SIDE = (((0, 1, 3), (2, 4)), ((0, 1, 2), (3, 4)))
THREE_A_SIDE = (((0, 1, 3), (1, 4), (2, 3)), ((1, 3), (3, 4), (0, 1, 2)))
FOUR_A_SIDE = (((0, 1), (0, 1), (2, 3), (2, 3)), ((0, 2), (0, 3), (1, 2), (1, 3)))

# Each written out by hand: weights and the riser that they tell.
TOLD = [
    (((0,), 0), (1, ((),))),
    (((0,), 1), (1, ())),
    (((1,), 1), (1, ((0,),))),
    (((7,), 3), (1, ((0,),))),
    (((1, 1), 1), (2, ((0,), (1,)))),
    (((1, 1), 2), (2, ((0, 1),))),
    (((1, 1), 3), (2, ())),
    (((1, 2), 2), (2, ((1,),))),
    (WEIGHTS, RISER),
    (((1, 1, 1), 2), (3, ((0, 1), (0, 2), (1, 2)))),
    (((1, 1, 2), 2), (3, ((0, 1), (2,)))),
    (((0, 0, 0), 0), (3, ((),))),
    (((5, 5, 5), 0), (3, ((),))),
    (((5, 5, 5), 16), (3, ())),
    (((5, 5, 5), 15), (3, ((0, 1, 2),))),
    (((0, 3, 0), 3), (3, ((1,),))),
    (((3, 2, 1, 1), 4), (4, ((0, 1), (0, 2), (0, 3), (1, 2, 3)))),
    (((1, 2, 4, 8), 8), (4, ((3,),))),
    (((1, 1, 1, 1, 1), 3), (5, tuple(combinations(range(5), 3)))),
    (((1, 2, 3, 4, 5), 9), (5, ((0, 2, 4), (1, 2, 3), (1, 2, 4), (3, 4)))),
    (((BIG, BIG - 1), BIG), (2, ((0,),))),
    (((BIG, BIG - 1, 1), BIG), (3, ((0,), (1, 2)))),
    (((BIG,) * 5, BIG), (5, ((0,), (1,), (2,), (3,), (4,)))),
]

# None of these is weights. One of the odd things is: of one switch, and due nought.
NO_WEIGHTS = [thing for thing in ODD_THINGS if thing != ((1,), 0)] + [
    ((), 0), ((), 1), ((1,) * 6, 1), ((0,) * 6, 0), ((1,) * 7, 1), ((-1, 1), 1), ((1, -1), 1),
    ((1, 1), -1), ((1, 1), -BIG), ((-BIG,), 0), ((True, 1), 1), ((1, False), 1), ((1, 1), True),
    ((1, 1), False), ([1, 1], 1), [(1, 1), 1], ((1, 1),), ((1, 1), 1, 1), (1, (1, 1)), (1, 1),
    (1, 1, 1), ((1, 1), (1,)), ((1, 1), None), ((1, 1), "1"), ((1, 1), [1]), (("1", 1), 1),
    ((1, None), 1), (((1,), 1), 1), (([1], 1), 1), ({0: 1}, 1), ("11", 1), (None, 1), (1, 0),
    ((1, 1), (1, 1)), ((), ()), ((1, 1), ()), (3, ()), RISER,
]

# None of these is a trade of any riser of four switches.
NO_TRADES = ODD_THINGS + [
    (), ((),), ((), ()), ((), (), ()), TRADE[0], TRADE[1], (TRADE[0],), (TRADE[1],), TRADED,
    TRADE + ((),), TRADE + (TRADE[0],), list(TRADE), (list(TRADE[0]), TRADE[1]),
    (TRADE[0], list(TRADE[1])), ((TRADE[0][0], [2, 3]), TRADE[1]), ([[0, 1], [2, 3]], TRADE[1]),
    (TRADE[0], ([0, 2], (1, 3))), (TRADE[0], None), (None, TRADE[1]), (None, None),
    (TRADE[0], ()), ((), TRADE[1]), (0, 0), (True, False), ((0, 1), (0, 2)), ("01", "02"),
    (((0, 1), None), TRADE[1]), (((0, 1), "2"), TRADE[1]), (TRADE[0], ((0, 2), (1, "3"))),
    (((1, 0), (2, 3)), TRADE[1]), (((0, 1), (3, 2)), TRADE[1]), (TRADE[0], ((2, 0), (1, 3))),
    (((0, 1), (2, 4)), ((0, 2), (1, 4))), (((-1, 1), (2, 3)), ((-1, 2), (1, 3))),
    (((False, 1), (2, 3)), TRADE[1]), (((0, True), (2, 3)), TRADE[1]),
    (TRADE[0], ((False, 2), (1, 3))), (TRADE[0], ((0, 2), (True, 3))),
]


def told_at(weights, stand):
    numbers, due = weights
    return sum(numbers[switch] for switch in stand) >= due


def on_in_all(stands):
    return sorted(switch for stand in stands for switch in stand)


def weights_of_small_numbers(many):
    for numbers in product(range(4 if many < 4 else 3), repeat=many):
        for due in range(sum(numbers) + 2):
            yield numbers, due


class ByWeights(Asking):
    """[71]: the riser that weights tell."""

    def test_written_out(self):
        for weights, riser in TOLD:
            self.same(by_weights(weights), riser)

    def test_stand_by_stand(self):
        for many, step in ((1, 1), (2, 1), (3, 1), (4, 2), (5, 7)):
            for weights in list(weights_of_small_numbers(many))[::step]:
                expected = riser_where(many, lambda stand, told=weights: told_at(told, stand))
                self.same(by_weights(weights), expected)

    def test_of_due_0_and_of_due_more_than_all_come_to(self):
        for many in range(1, 6):
            for numbers in product((0, 1, BIG), repeat=many):
                self.same(by_weights((numbers, 0)), (many, ((),)))
                self.same(by_weights((numbers, sum(numbers) + 1)), (many, ()))
                if min(numbers) > 0:
                    self.same(by_weights((numbers, sum(numbers))), (many, (tuple(range(many)),)))

    def test_numbers_of_thirty_figures(self):
        for many in range(1, 6):
            numbers = tuple(BIG - 3 * switch for switch in range(many))
            for due in (BIG, BIG - 1, BIG - 12, 2 * BIG - 9, 2 * BIG, 3 * BIG - 10):
                expected = riser_where(many, lambda stand, last=due, each=numbers: told_at(
                    (each, last), stand))
                self.same(by_weights((numbers, due)), expected)

    def test_no_weights(self):
        for thing in NO_WEIGHTS:
            self.refused(NoWeights, by_weights, thing)

    def test_both_exchanged(self):
        for (numbers, due), _ in TOLD:
            self.refused(NoWeights, by_weights, (due, numbers))


class AreWeights(Asking):
    """[71]: whether a thing is weights that tell a riser."""

    def told(self, thing, riser, expected):
        with self.subTest(thing=thing, riser=riser):
            self.assertIs(are_weights(thing, riser), expected)

    def test_written_out(self):
        for weights, riser in TOLD:
            self.told(weights, riser, True)
            for _, other in TOLD:
                self.told(weights, other, riser == other)

    def test_of_all_risers_just_of_the_one_that_they_tell(self):
        for many in (1, 2, 3):
            for weights in weights_of_small_numbers(many):
                held = [told_at(weights, stand) for stand in stands_of(many)]
                for riser in RISERS[many]:
                    truth = held == [holds_at(riser, stand) for stand in stands_of(many)]
                    self.assertIs(are_weights(weights, riser), truth)

    def test_of_another_number_of_switches(self):
        for many, other in permutations(range(1, 6), 2):
            for due in (0, 1, 2, 9):
                for riser in RISERS[other][:4] + RISERS[other][-4:]:
                    self.told(((1,) * many, due), riser, False)

    def test_one_number_turned(self):
        numbers = (3, 2, 1, 1)
        for riser in RISERS[4]:
            for at, due in product(range(4), range(8)):
                for one in (0, 5, True, "3", None, -1):
                    turned = (numbers[:at] + (one,) + numbers[at + 1:], due)
                    whole = isinstance(one, int) and not isinstance(one, bool) and one >= 0
                    expected = whole and all(told_at(turned, stand) == holds_at(riser, stand)
                                             for stand in stands_of(4))
                    self.assertIs(are_weights(turned, riser), expected)

    def test_whatever_kind(self):
        for thing in NO_WEIGHTS:
            for riser in (RISER, (1, ()), (2, ((),)), (2, ((0,), (1,))), (5, ((0,),))):
                self.told(thing, riser, False)

    def test_a_truth_for_nought_or_one(self):
        self.told(((1,), 1), (1, ((0,),)), True)
        for thing in (((True,), 1), ((1,), True), ((True,), True)):
            self.told(thing, (1, ((0,),)), False)
        self.told(((0,), 0), (1, ((),)), True)
        for thing in (((False,), 0), ((0,), False), ((False,), False)):
            self.told(thing, (1, ((),)), False)

    def test_no_riser_whatever_the_thing(self):
        for riser in NO_RISERS:
            for thing in (WEIGHTS, ((1,), 0), None, True, [], RISER):
                self.refused(NoRiser, are_weights, thing, riser)


class IsTrade(Asking):
    """[72]: whether a thing is a trade of a riser."""

    def told(self, thing, riser, expected):
        with self.subTest(thing=thing, riser=riser):
            self.assertIs(is_trade(thing, riser), expected)

    def test_written_out(self):
        self.told(TRADE, TRADED, True)
        self.told((TRADE[0][::-1], TRADE[1]), TRADED, True)
        self.told((TRADE[0], ((0, 3), (1, 2))), TRADED, True)
        self.told((((0, 1, 2), (2, 3)), ((0, 2), (1, 2, 3))), TRADED, False)
        self.told((((0, 1), (0, 1), (2, 3), (2, 3)), ((0, 2), (1, 3)) * 2), TRADED, True)
        self.told((((0, 1), (2, 3), (0, 1)), ((0, 2), (1, 3), (0,))), TRADED, False)
        self.told((((0, 1), (2, 3), (2, 3)), ((0, 2), (1, 3), (2, 3))), TRADED, False)

    def test_all_of_one_and_two_stands_a_side_by_the_very_words(self):
        for riser in RISERS[1] + RISERS[2] + RISERS[3][::2] + [TRADED, (4, ((0,), (1, 2)))]:
            held = {stand: holds_at(riser, stand) for stand in stands_of(riser[0])}
            for size in (1, 2):
                rows = list(combinations_with_replacement(held, size))
                for high, low in product(rows, repeat=2):
                    expected = (all(held[one] for one in high) and not any(held[o] for o in low)
                                and on_in_all(high) == on_in_all(low))
                    self.assertIs(is_trade((high, low), riser), expected, (high, low, riser))

    def test_of_three_and_four_stands_a_side(self):
        high, low = THREE_A_SIDE
        self.told(THREE_A_SIDE, FIVE, True)
        for one, other in product(permutations(high), permutations(low)):
            self.told((one, other), FIVE, True)
        for at in range(3):
            for stand in stands_of(5):
                self.told((high[:at] + (stand,) + high[at + 1:], low), FIVE, stand == high[at])
                self.told((high, low[:at] + (stand,) + low[at + 1:]), FIVE, stand == low[at])
        high, low = FOUR_A_SIDE
        self.told(FOUR_A_SIDE, TRADED, True)
        self.told(FOUR_A_SIDE, FIVE, False)
        for one in permutations(low):
            self.told((high, one), TRADED, True)
            self.told((one, high), TRADED, False)
        for at in range(4):
            self.told((high[:at] + high[at + 1:], low), TRADED, False)
            self.told((high, low[:at] + low[at + 1:]), TRADED, False)
            for stand in stands_of(4):
                self.told((high, low[:at] + (stand,) + low[at + 1:]), TRADED, stand == low[at])

    def test_five_stands_a_side_and_none(self):
        (two, two_low), (three, three_low) = TWO_A_SIDE, THREE_A_SIDE
        self.told(TWO_A_SIDE, FIVE, True)
        self.told((two + two, two_low + two_low), FIVE, True)
        self.told((two + three, two_low + three_low), FIVE, False)
        self.told((two * 3, two_low * 3), FIVE, False)
        self.told((TRADE[0] * 3, TRADE[1] * 3), TRADED, False)
        for riser in EACH_RISER[::7]:
            self.told(((), ()), riser, False)
            self.told((), riser, False)

    def test_stands_left_out_put_in_or_exchanged(self):
        high, low = TRADE
        for stand in stands_of(4):
            for thing in ((high + (stand,), low), (high, low + (stand,)), ((stand,) + high, low),
                          (high + (stand,), low + (stand,))):
                self.told(thing, TRADED, False)
            for at in (0, 1):
                turned = high[:at] + (stand,) + high[at + 1:]
                self.told((turned, low), TRADED, stand == high[at])
                turned = low[:at] + (stand,) + low[at + 1:]
                self.told((high, turned), TRADED, stand == low[at])
        for at in (0, 1):
            self.told((high[:at] + high[at + 1:], low), TRADED, False)
            self.told((high, low[:at] + low[at + 1:]), TRADED, False)
            for other in (0, 1):
                self.told((high[at:at + 1], low[other:other + 1]), TRADED, False)

    def test_both_exchanged(self):
        self.told(TRADE[::-1], TRADED, False)
        self.told(TRADE[::-1], mirror(TRADED), True)
        self.told(TRADE, mirror(TRADED), False)

    def test_whatever_kind(self):
        for thing in NO_TRADES:
            for riser in (TRADED, (4, ((0, 1),)), (4, ()), (4, ((),)), RISER):
                self.told(thing, riser, False)

    def test_of_fewer_switches(self):
        self.told(TRADE, (5, TRADED[1]), True)
        self.told(TRADE, (3, ((0, 1), (0, 2))), False)
        for many in (1, 2, 3):
            for riser in RISERS[many]:
                self.told(TRADE, riser, False)

    def test_no_riser_whatever_the_thing(self):
        for riser in NO_RISERS:
            for thing in (TRADE, None, True, [], (), ((), ())):
                self.refused(NoRiser, is_trade, thing, riser)


class WeightsForAndTradeFor(Asking):
    """[73]: some weights of a riser, or some trade."""

    def told(self, riser):
        weights, trade = weights_for(riser), trade_for(riser)
        with self.subTest(riser=riser):
            self.assertNotEqual(weights is None, trade is None)
            if weights is not None:
                self.assertIs(type(weights), tuple)
                self.assertIs(are_weights(weights, riser), True)
                self.same(by_weights(weights), riser)
            else:
                self.assertIs(is_trade(trade, riser), True)
                high, low = trade
                self.assertTrue(1 <= len(high) == len(low) <= 4)
                self.assertEqual(on_in_all(high), on_in_all(low))
                self.assertTrue(all(holds_at(riser, stand) for stand in high))
                self.assertFalse(any(holds_at(riser, stand) for stand in low))
        return weights is not None

    def test_just_one_of_both_and_it_is_such(self):
        # So many have weights is known from elsewhere.
        for many, with_weights in ((1, 3), (2, 6), (3, 20), (4, 150)):
            self.assertEqual(sum(self.told(riser) for riser in RISERS[many]), with_weights)
        for riser in RISERS[5]:
            self.told(riser)

    def test_of_risers_that_weights_tell_always_weights(self):
        for weights, riser in TOLD:
            self.assertTrue(self.told(riser))
        for numbers in ((1, 1, 2, 3, 4), (5, 4, 3, 2, 1), (4, 3, 3, 2, 2), (5, 4, 3, 2, 2),
                        (2, 5, 1, 3, 4), (3, 3, 2, 2, 1), (BIG, BIG - 3, 7, 5, 1), (1, 2, 4, 8, 16)):
            sums = {sum(some) for size in range(6) for some in combinations(numbers, size)}
            for due in sorted(sums):
                self.assertTrue(self.told(by_weights((numbers, due))), (numbers, due))

    def test_of_some_that_have_none(self):
        for riser in (TRADED, mirror(TRADED), FIVE, mirror(FIVE), (5, ((0, 1), (2, 3, 4))),
                      (5, TRADED[1]), (5, ((0, 1), (1, 2), (2, 3), (3, 4)))):
            self.assertFalse(self.told(riser))

    def test_of_one_that_always_holds_and_one_that_never_does(self):
        for many in range(1, 6):
            for least in ((), ((),)):
                self.assertTrue(self.told((many, least)))
                self.same(trade_for((many, least)), None)

    def test_no_riser(self):
        for thing in NO_RISERS:
            self.refused(NoRiser, weights_for, thing)
            self.refused(NoRiser, trade_for, thing)


class What74Says(Asking):
    """[74]: what follows of weights."""

    def test_with_numbers_no_less_it_holds_wherever_it_did(self):
        for (numbers, due), riser in TOLD:
            for more in product((0, 1, 5), repeat=len(numbers)):
                other = by_weights((tuple(a + b for a, b in zip(numbers, more)), due))
                self.same(is_below(riser, other), True)

    def test_the_mirror_of_a_riser_with_weights_has_some(self):
        for riser in RISERS[1] + RISERS[2] + RISERS[3] + RISERS[4] + RISERS[5][::2]:
            weights, others = weights_for(riser), weights_for(mirror(riser))
            self.assertEqual(weights is None, others is None)


class NothingIsChanged(Asking):
    """[4]: what is handed in stays as it is, and the same asked has the same answer."""

    def test_it_all(self):
        for thing in NO_WEIGHTS + NO_TRADES + [WEIGHTS, TRADE, RISER, TRADED, ([[1], 1], [2])]:
            for action in (by_weights, weights_for, trade_for):
                self.asked_twice(action, thing)
            for riser in (RISER, TRADED, thing):
                self.asked_twice(are_weights, thing, riser)
                self.asked_twice(is_trade, thing, riser)
        for riser in EACH_RISER[::5]:
            self.asked_twice(weights_for, riser)
            self.asked_twice(trade_for, riser)
