"""Chains of stands, along each of which a riser begins to hold at one place."""

from math import comb

from onlyrisers.errors import NoChains, NoNumber
from onlyrisers.risers import (holds_by, is_stand_of, is_whole, least_of, lies_within,
                               refuse_no_many, refuse_no_riser, rises)
from onlyrisers.tables import all_stands


def is_one_more(stand, ahead):
    """Whether the stand is the one ahead of it with one switch more."""
    return len(stand) == len(ahead) + 1 and lies_within(ahead, stand)


def is_chain_of(thing, many):
    """Whether a thing of whatever kind is a chain of so many switches."""
    if not isinstance(thing, tuple) or len(thing) == 0:
        return False
    if not all(is_stand_of(one, many) for one in thing):
        return False
    return all(is_one_more(thing[place], thing[place - 1]) for place in range(1, len(thing)))


def are_chains_of(thing, many):
    """Whether a thing of whatever kind is chains of so many switches."""
    if not isinstance(thing, tuple) or not all(is_chain_of(one, many) for one in thing):
        return False
    stands = [stand for chain in thing for stand in chain]
    return rises(thing) and sorted(stands) == sorted(all_stands(many))


def are_chains(thing, many):
    """Whether a thing of whatever kind is chains of a number of switches."""
    refuse_no_many(many)
    return are_chains_of(thing, many)


def with_switch(chain, switch):
    """What becomes of a chain with one switch more, above all of its own: one or two chains."""
    on = [stand + (switch,) for stand in chain]
    longer = chain + (on[-1],)
    # The last stand with the switch ends the longer one, so of one stand none is left over.
    shorter = tuple(on[:-1])
    return [longer, shorter] if shorter else [longer]


def few_chains(many):
    """Chains of so many switches, as few as there can be."""
    refuse_no_many(many)
    chains = [((),)]
    for switch in range(many):
        chains = [one for chain in chains for one in with_switch(chain, switch)]
    return tuple(sorted(chains))


def fewest(many):
    """How many the fewest chains of so many switches are."""
    refuse_no_many(many)
    # Each stand of the middle size needs a chain of its own, and no others are needed.
    return comb(many, many // 2)


def refuse_no_chains(thing, many):
    """Raise NoChains if a thing of whatever kind is no chains of so many switches."""
    if not are_chains_of(thing, many):
        raise NoChains("these are no chains of so many switches")


def fails_many(least, chain):
    """At how many stands of the chain a riser with these least stands does not hold."""
    return len([stand for stand in chain if not holds_by(least, stand)])


def begins(riser, chains):
    """For each of the chains, at how many of its stands the riser does not hold."""
    refuse_no_riser(riser)
    many, least = riser
    refuse_no_chains(chains, many)
    return tuple([fails_many(least, chain) for chain in chains])


def are_places_in(thing, chains):
    """Whether a thing of whatever kind is a tuple of a number for each chain, in its length."""
    if not isinstance(thing, tuple) or len(thing) != len(chains):
        return False
    return all(is_whole(one) and 0 <= one <= len(chain) for one, chain in zip(thing, chains))


def riser_by(many, chains, numbers):
    """The riser that begins on each of the chains behind so many stands, or None."""
    refuse_no_many(many)
    refuse_no_chains(chains, many)
    if not are_places_in(numbers, chains):
        raise NoNumber("these are no numbers of stands, one for each chain")
    held = [stand for number, chain in zip(numbers, chains) for stand in chain[number:]]
    riser = (many, least_of(held))
    # What holds on one chain may make it hold on another one, ahead of that one's number.
    return riser if begins(riser, chains) == numbers else None
