"""Risers that are alike: the one is named as the other by some order."""

from itertools import permutations

from onlyrisers.counts import all_risers
from onlyrisers.joins import named, refuse_no_pair
from onlyrisers.risers import refuse_no_riser


def keeping(riser):
    """The orders by which the riser is named as itself, a rising list."""
    refuse_no_riser(riser)
    return [order for order in permutations(range(riser[0])) if named(riser, order) == riser]


def naming(one, other):
    """The first order by which the one riser is named as the other one, or None."""
    refuse_no_pair(one, other)
    for order in permutations(range(one[0])):
        if named(one, order) == other:
            return order
    return None


def are_alike(one, other):
    """Whether the one riser is named as the other one by some order."""
    return naming(one, other) is not None


def all_named(riser):
    """All unlike risers that the riser is named as, a rising list."""
    refuse_no_riser(riser)
    return sorted({named(riser, order) for order in permutations(range(riser[0]))})


def least_alike(riser):
    """The least riser that the riser is named as."""
    return all_named(riser)[0]


def named_many(riser):
    """How many unlike risers the riser is named as."""
    return len(all_named(riser))


def kinds(many):
    """All least alike risers of so many switches, a rising list."""
    return sorted({least_alike(riser) for riser in all_risers(many)})
