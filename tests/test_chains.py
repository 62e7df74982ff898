from itertools import combinations, product

from onlyrisers.chains import are_chains, begins, few_chains, fewest, riser_by
from onlyrisers.errors import NoChains, NoNumber, NoRiser
from tests.asking import Asking
from tests.making import (BIG, EACH_RISER, NO_MANY, NO_RISERS, ODD_THINGS, RISERS, holds_at,
                          rest_of, riser_where, stands_of)

RISER = (3, ((0,), (1, 2)))
FEWEST = {1: 1, 2: 2, 3: 3, 4: 6, 5: 10}

# Each written out by hand.
TWO = (((), (0,), (0, 1)), ((1,),))
THREE = (((), (0,), (0, 1), (0, 1, 2)), ((1,), (1, 2)), ((2,), (0, 2)))
OTHER_THREE = (((), (1,)), ((0,), (0, 2), (0, 1, 2)), ((0, 1),), ((1, 2),), ((2,),))


def alone(many):
    """Chains of one stand each."""
    return tuple(sorted((stand,) for stand in stands_of(many)))


def drawn(many, seed):
    """Chains of so many switches, unlike ones by each seed."""
    def lot(stand):
        return (sum(5 ** switch for switch in stand) * 7919 + seed * 104729) ** 2 % 101
    left, chains = stands_of(many), []
    while left:
        chain = [min(left, key=lot)]
        left.remove(chain[0])
        # Some chains end ahead of where they could.
        while lot(chain[-1]) % 5:
            more = [tuple(sorted(chain[-1] + (switch,))) for switch in rest_of(many, chain[-1])]
            more = [stand for stand in more if stand in left]
            if not more:
                break
            chain.append(min(more, key=lot))
            left.remove(chain[-1])
        chains.append(tuple(chain))
    return tuple(sorted(chains))


CHAINS = {many: [few_chains(many), alone(many)] + [drawn(many, seed) for seed in range(6)]
          for many in range(1, 6)}
CHAINS[2].append(TWO)
CHAINS[3] += [THREE, OTHER_THREE]
EACH_CHAINS = [(many, chains) for many in CHAINS for chains in CHAINS[many]]

# None of these is chains of three switches.
NO_CHAINS = ODD_THINGS + [
    list(THREE), (list(THREE[0]),) + THREE[1:], THREE[::-1], THREE[1:], THREE[:2], THREE + ((),),
    ((),) + THREE, THREE + THREE[2:], TWO, THREE[0], ((((),), ()),), ((), (0,)), (THREE,), RISER,
    (((), (False,), (0, 1), (0, 1, 2)),) + THREE[1:], alone(3)[::-1], alone(4), {0: THREE},
    THREE[:2] + (((2,), [0, 2]),), THREE[:2] + (((2,), (2, 0)),), THREE[:2] + (((2,), None),),
]


def are_told_chains(thing, many):
    """By the very words, of a tuple of tuples of stands."""
    for chain in thing:
        if not chain or any(set(one) - set(ahead) == set() or set(ahead) - set(one)
                            or len(one) != len(ahead) + 1 for ahead, one in zip(chain, chain[1:])):
            return False
    told = [stand for chain in thing for stand in chain]
    return list(thing) == sorted(set(thing)) and sorted(told) == sorted(stands_of(many))


def told_by(many, chains, numbers):
    """By the very words: the riser that holds just behind so many stands of each chain."""
    held = {stand for chain, number in zip(chains, numbers) for stand in chain[number:]}
    for stand in held:
        if not all(tuple(sorted(stand + (switch,))) in held for switch in rest_of(many, stand)):
            return None
    return riser_where(many, lambda stand: stand in held)


class AreChains(Asking):
    """[51]: whether a thing is chains of a number of switches."""

    def told(self, thing, many, expected):
        with self.subTest(thing=thing, many=many):
            self.assertIs(are_chains(thing, many), expected)

    def test_written_out(self):
        self.told((((), (0,)),), 1, True)
        self.told((((),), ((0,),)), 1, True)
        self.told(TWO, 2, True)
        self.told(THREE, 3, True)
        self.told(OTHER_THREE, 3, True)
        self.told(alone(3), 3, True)

    def test_of_each_number_of_switches_and_of_no_other_one(self):
        for told, chains in EACH_CHAINS:
            self.assertTrue(are_told_chains(chains, told))
            for many in range(1, 6):
                self.told(chains, many, many == told)

    def test_all_tuples_of_chains_of_two_switches_by_the_very_words(self):
        stands = stands_of(2)
        rows = [row for size in range(4) for row in product(stands, repeat=size)
                if len(set(row)) == size]
        straight = [row for row in rows if all(set(a) < set(b) for a, b in zip(row, row[1:]))]
        for size in range(5):
            for thing in product(straight, repeat=size):
                self.assertIs(are_chains(thing, 2), are_told_chains(thing, 2), thing)
        for size in range(3):
            for thing in product(rows, repeat=size):
                self.assertIs(are_chains(thing, 2), are_told_chains(thing, 2), thing)

    def test_a_stand_left_out_twice_or_exchanged(self):
        for many, chains in EACH_CHAINS:
            for at, chain in enumerate(chains):
                for place, stand in enumerate(chain):
                    ahead, behind = chain[:place], chain[place + 1:]
                    for one in (ahead + behind, ahead + (stand, stand) + behind):
                        self.told(chains[:at] + (one,) + chains[at + 1:], many, False)
                    for other in stands_of(many)[::many]:
                        if other != stand:
                            one = ahead + (other,) + behind
                            self.told(chains[:at] + (one,) + chains[at + 1:], many, False)

    def test_a_chain_left_out_twice_or_from_behind(self):
        for many, chains in EACH_CHAINS:
            for at, chain in enumerate(chains):
                ahead, behind = chains[:at], chains[at + 1:]
                self.told(ahead + behind, many, False)
                self.told(ahead + (chain, chain) + behind, many, False)
                if len(chain) > 1:
                    self.told(ahead + (chain[::-1],) + behind, many, False)
                    self.told(tuple(sorted(ahead + (chain[::-1],) + behind)), many, False)

    def test_a_chain_parted(self):
        for many, chains in EACH_CHAINS:
            for at, chain in enumerate(chains):
                for place in range(1, len(chain)):
                    parted = chains[:at] + (chain[:place], chain[place:]) + chains[at + 1:]
                    self.told(tuple(sorted(parted)), many, True)
                    self.told(parted, many, list(parted) == sorted(parted))

    def test_two_chains_joined(self):
        for many, chains in EACH_CHAINS:
            for one, other in combinations(chains, 2):
                for joined in (one + other, other + one):
                    rest = [chain for chain in chains if chain not in (one, other)]
                    thing = tuple(sorted(rest + [joined]))
                    self.told(thing, many, are_told_chains(thing, many))
        self.told((((), (1,)), ((0,),), ((0, 1),)), 2, True)
        self.told((((), (1,)), ((0,), (0, 1))), 2, True)
        self.told((((), (1,), (0,), (0, 1)),), 2, False)
        self.told((((), (0, 1)), ((0,),), ((1,),)), 2, False)

    def test_chains_in_another_order(self):
        for many, chains in EACH_CHAINS:
            if len(chains) > 1:
                self.told(chains[::-1], many, False)
                self.told(chains[1:] + chains[:1], many, False)
                self.told(chains[1:2] + chains[:1] + chains[2:], many, False)

    def test_an_empty_chain_and_none(self):
        for many, chains in EACH_CHAINS:
            self.told(((),) + chains, many, False)
            self.told(chains + ((),), many, False)
            self.told((), many, False)
            self.told(((),), many, False)

    def test_a_list_at_each_depth(self):
        for many, chains in EACH_CHAINS:
            self.told(list(chains), many, False)
            for at, chain in enumerate(chains):
                self.told(chains[:at] + (list(chain),) + chains[at + 1:], many, False)
                for place, stand in enumerate(chain):
                    one = chain[:place] + (list(stand),) + chain[place + 1:]
                    self.told(chains[:at] + (one,) + chains[at + 1:], many, False)

    def test_a_truth_for_nought_or_one(self):
        for many, chains in EACH_CHAINS:
            for at, chain in enumerate(chains):
                for place, stand in enumerate(chain):
                    for truth in (False, True):
                        if truth in stand:
                            turned = tuple(truth if switch == truth else switch
                                           for switch in stand)
                            one = chain[:place] + (turned,) + chain[place + 1:]
                            self.told(chains[:at] + (one,) + chains[at + 1:], many, False)

    def test_a_switch_that_is_none_of_it(self):
        self.told((((), (0,)), ((1,),)), 1, False)
        self.told((((), (0,), (0, 1)), ((1,), (1, 2))), 2, False)
        self.told((((-1,),), ((), (0,))), 1, False)
        self.told((((), (-1,)),), 1, False)

    def test_whatever_kind(self):
        for thing in NO_CHAINS:
            self.told(thing, 3, False)
        for thing in ODD_THINGS + [RISER]:
            for many in range(1, 6):
                self.told(thing, many, False)

    def test_no_number_whatever_the_thing(self):
        for many in NO_MANY:
            for thing in NO_CHAINS + [TWO, THREE]:
                self.refused(NoNumber, are_chains, thing, many)


class FewChains(Asking):
    """[51]: chains, as few as there can be, and how many these are."""

    def test_they_are_chains_as_many_as_the_fewest(self):
        for many in range(1, 6):
            chains = few_chains(many)
            self.assertTrue(are_told_chains(chains, many), chains)
            self.assertIs(are_chains(chains, many), True)
            self.assertEqual(len(chains), FEWEST[many])
            self.same(fewest(many), FEWEST[many])

    def test_no_number(self):
        for many in NO_MANY:
            self.refused(NoNumber, few_chains, many)
            self.refused(NoNumber, fewest, many)


class Begins(Asking):
    """[52]: at how many stands of each chain a riser does not hold."""

    def test_written_out(self):
        self.same(begins(RISER, THREE), (1, 1, 1))
        self.same(begins(RISER, OTHER_THREE), (2, 0, 0, 0, 1))
        self.same(begins((3, ()), THREE), (4, 2, 2))
        self.same(begins((3, ((),)), THREE), (0, 0, 0))
        self.same(begins((3, ((0, 1, 2),)), THREE), (3, 2, 2))
        self.same(begins((3, ((2,),)), THREE), (3, 1, 0))
        self.same(begins((2, ((0, 1),)), TWO), (2, 1))
        self.same(begins((1, ((0,),)), (((), (0,)),)), (1,))

    def test_stand_by_stand(self):
        for many, chains in EACH_CHAINS:
            for riser in RISERS[many]:
                told = [sum(1 for stand in chain if not holds_at(riser, stand))
                        for chain in chains]
                self.same(begins(riser, chains), tuple(told))

    def test_no_chains(self):
        for thing in NO_CHAINS:
            self.refused(NoChains, begins, RISER, thing)

    def test_chains_of_another_number(self):
        for told, chains in EACH_CHAINS:
            for many in range(1, 6):
                if many != told:
                    self.refused(NoChains, begins, (many, ((0,),)), chains)

    def test_no_riser_goes_ahead_of_no_chains(self):
        for thing in NO_RISERS:
            for chains in (THREE, TWO, None, (), []):
                self.refused(NoRiser, begins, thing, chains)


class RiserBy(Asking):
    """[52]: the riser that is told by chains and numbers."""

    def test_gives_the_riser_back(self):
        for many, chains in EACH_CHAINS:
            for riser in RISERS[many]:
                self.same(riser_by(many, chains, begins(riser, chains)), riser)

    def test_written_out(self):
        self.same(riser_by(3, THREE, (1, 1, 1)), RISER)
        self.same(riser_by(3, THREE, (0, 0, 0)), (3, ((),)))
        self.same(riser_by(3, THREE, (4, 2, 2)), (3, ()))
        self.same(riser_by(3, THREE, (3, 1, 0)), (3, ((2,),)))
        self.same(riser_by(3, THREE, (0, 1, 0)), None)
        self.same(riser_by(3, THREE, (4, 2, 1)), None)
        self.same(riser_by(3, THREE, (4, 0, 2)), None)

    def test_none_where_the_numbers_are_of_no_riser(self):
        for many, seeds in ((1, 8), (2, 9), (3, 4), (4, 1)):
            for chains in CHAINS[many][:seeds]:
                told = {begins(riser, chains): riser for riser in RISERS[many]}
                # No two risers have the same numbers.
                self.assertEqual(len(told), len(RISERS[many]))
                for numbers in product(*[range(len(chain) + 1) for chain in chains]):
                    self.same(riser_by(many, chains, numbers), told.get(numbers))

    def test_one_number_turned_of_five_switches(self):
        for chains in CHAINS[5][::3]:
            for riser in RISERS[5][::10]:
                numbers = begins(riser, chains)
                for at, chain in enumerate(chains):
                    for other in range(len(chain) + 1):
                        turned = numbers[:at] + (other,) + numbers[at + 1:]
                        self.same(riser_by(5, chains, turned), told_by(5, chains, turned))

    def test_no_number_for_the_numbers(self):
        for numbers in ((), (1,), (1, 1), (1, 1, 1, 1), (0, 0, 0, 0), (5, 1, 1), (1, 3, 1),
                        (1, 1, 3), (-1, 1, 1), (1, -1, 1), (1, 1, -1), (BIG, 1, 1), (1, 1, -BIG),
                        (True, 1, 1), (1, True, 1), (1, 1, False), (1, 1, "1"), (1, None, 1),
                        ((1,), 1, 1), ([1], 1, 1), [1, 1, 1], [], {}, {0: 1, 1: 1, 2: 1}, "111",
                        111, 3, None, True, ((1, 1, 1),), THREE, RISER):
            self.refused(NoNumber, riser_by, 3, THREE, numbers)

    def test_no_number_for_numbers_of_whatever_kind(self):
        for thing in ODD_THINGS:
            self.refused(NoNumber, riser_by, 3, THREE, thing)

    def test_a_number_beyond_its_chain(self):
        for many, chains in EACH_CHAINS:
            numbers = tuple(len(chain) for chain in chains)
            self.same(riser_by(many, chains, numbers), (many, ()))
            for at, number in enumerate(numbers):
                for other in (number + 1, -1, True):
                    turned = numbers[:at] + (other,) + numbers[at + 1:]
                    self.refused(NoNumber, riser_by, many, chains, turned)
            self.refused(NoNumber, riser_by, many, chains, numbers + (0,))
            self.refused(NoNumber, riser_by, many, chains, numbers[1:])
            self.refused(NoNumber, riser_by, many, chains, list(numbers))

    def test_no_chains_goes_ahead_of_the_numbers(self):
        for thing in NO_CHAINS:
            for numbers in ((1, 1, 1), (1, 1), [1, 1, 1], None, (9, -1, True), thing):
                self.refused(NoChains, riser_by, 3, thing, numbers)

    def test_chains_of_another_number(self):
        for told, chains in EACH_CHAINS:
            for many in range(1, 6):
                if many != told:
                    for numbers in ((0,) * len(chains), None, (-1,)):
                        self.refused(NoChains, riser_by, many, chains, numbers)

    def test_no_number_of_switches_goes_ahead_of_no_chains(self):
        for many in NO_MANY:
            for chains in [THREE, few_chains(5), ()] + NO_CHAINS[::5]:
                for numbers in ((1, 1, 1), None, ()):
                    self.refused(NoNumber, riser_by, many, chains, numbers)


class What53Says(Asking):
    """[53]: what follows of chains."""

    def test_a_riser_holds_at_the_last_stands_of_each_chain(self):
        for many, chains in EACH_CHAINS:
            for riser in RISERS[many]:
                for chain, number in zip(chains, begins(riser, chains)):
                    for place, stand in enumerate(chain):
                        self.assertIs(holds_at(riser, stand), place >= number)

    def test_no_stands_apart_are_more_than_the_fewest_chains(self):
        # The least stands of risers are all the stands apart there are.
        for many, least in EACH_RISER:
            self.assertLessEqual(len(least), fewest(many))
        for many in range(1, 6):
            middle = [one for one in stands_of(many) if len(one) == many // 2]
            self.assertEqual(len(middle), fewest(many))


class NothingIsChanged(Asking):
    """[4]: what is handed in stays as it is, and the same asked has the same answer."""

    def test_it_all(self):
        for thing in NO_CHAINS + NO_MANY + [[[()], [[0]]], (1, [1], 1), THREE, RISER, 3, 5]:
            self.asked_twice(few_chains, thing)
            self.asked_twice(fewest, thing)
            for other in (3, thing):
                self.asked_twice(are_chains, thing, other)
                self.asked_twice(riser_by, other, thing, (1, 1, 1))
                self.asked_twice(riser_by, other, THREE, thing)
            for other in (RISER, thing):
                self.asked_twice(begins, other, thing)
        for many, chains in EACH_CHAINS:
            self.asked_twice(are_chains, chains, many)
            self.asked_twice(begins, RISERS[many][-2], chains)
            self.asked_twice(riser_by, many, chains, (0,) * len(chains))
