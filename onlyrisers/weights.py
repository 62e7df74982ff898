"""Weights that tell a riser, and trades that show that none do."""

from itertools import combinations

from onlyrisers.bounds import greatest
from onlyrisers.counts import decides
from onlyrisers.errors import NoWeights
from onlyrisers.risers import (MOST_SWITCHES, holds_by, is_stand_of, is_whole, least_of,
                               refuse_no_riser)
from onlyrisers.tables import all_stands

MOST_A_SIDE = 4
# Where weights tell a riser of up to five switches, some with no greater number do.
ENOUGH = 5


def is_no_less_than_nought(thing):
    """Whether a thing of whatever kind is a whole number from 0 on."""
    return is_whole(thing) and thing >= 0


def are_some_weights(thing):
    """Whether a thing of whatever kind is weights, whatever riser they tell."""
    if not isinstance(thing, tuple) or len(thing) != 2:
        return False
    numbers, due = thing
    if not isinstance(numbers, tuple) or not 1 <= len(numbers) <= MOST_SWITCHES:
        return False
    return is_no_less_than_nought(due) and all(is_no_less_than_nought(one) for one in numbers)


def weight_of(numbers, stand):
    """What the numbers of the switches that are on at a stand come to."""
    return sum([numbers[switch] for switch in stand])


def by_weights(weights):
    """The riser that the weights tell."""
    if not are_some_weights(weights):
        raise NoWeights("these are no weights")
    numbers, due = weights
    many = len(numbers)
    return many, least_of([one for one in all_stands(many) if weight_of(numbers, one) >= due])


def are_weights(thing, riser):
    """Whether a thing of whatever kind is weights that tell the riser."""
    refuse_no_riser(riser)
    return are_some_weights(thing) and by_weights(thing) == riser


def on_in_each(stands, many):
    """For each of so many switches, in how many of the stands it is on."""
    on = [switch for stand in stands for switch in stand]
    return tuple([on.count(switch) for switch in range(many)])


def are_stands_where(thing, riser, truth):
    """Whether a thing of whatever kind is a tuple of stands where the riser holds, or not."""
    many, least = riser
    if not isinstance(thing, tuple) or not all(is_stand_of(one, many) for one in thing):
        return False
    return all(holds_by(least, one) == truth for one in thing)


def is_trade(thing, riser):
    """Whether a thing of whatever kind is a trade of the riser."""
    refuse_no_riser(riser)
    if not isinstance(thing, tuple) or len(thing) != 2:
        return False
    high, low = thing
    if not are_stands_where(high, riser, True) or not are_stands_where(low, riser, False):
        return False
    if len(high) != len(low) or not 1 <= len(high) <= MOST_A_SIDE:
        return False
    return on_in_each(high, riser[0]) == on_in_each(low, riser[0])


def falling_numbers(many):
    """All tuples of so many numbers that are enough, none greater than the one ahead."""
    found = [()]
    for _ in range(many):
        found = [numbers + (one,) for numbers in found for one in range(ENOUGH + 1)
                 if numbers == () or one <= numbers[-1]]
    return found


def weights_for(riser):
    """Some weights that tell the riser, None where there are none."""
    high = greatest(riser)
    many, least = riser
    deciding = decides(riser)
    # Where there are weights, there are some in which a switch that decides at more stands
    # has no smaller number, so that no other orders of the numbers are looked at.
    order = sorted(range(many), key=lambda switch: deciding[switch], reverse=True)
    for falling in falling_numbers(many):
        numbers = tuple([falling[order.index(switch)] for switch in range(many)])
        due = 1 + max([weight_of(numbers, one) for one in high], default=-1)
        if all(weight_of(numbers, one) >= due for one in least):
            return numbers, due
    return None


def trade_for(riser):
    """Some trade of the riser, None where there is none."""
    refuse_no_riser(riser)
    many, least = riser
    held = [one for one in all_stands(many) if holds_by(least, one)]
    failing = [one for one in all_stands(many) if not holds_by(least, one)]
    # Up to five switches a riser that has a trade has one of two unlike stands a side.
    lows = {on_in_each(low, many): low for low in combinations(failing, 2)}
    for high in combinations(held, 2):
        if on_in_each(high, many) in lows:
            return high, lows[on_in_each(high, many)]
    return None
