"""Least and greatest stands, each made of the other, and the mirror of a riser."""

from onlyrisers.errors import NoStand
from onlyrisers.risers import are_apart_of, least_of, refuse_no_many, refuse_no_riser, together


def others_of(many, stand):
    """The stand of all the other ones of so many switches."""
    return tuple([switch for switch in range(many) if switch not in stand])


def others_of_each(many, stands):
    """For each of the stands that of all the other switches, in order."""
    return tuple(sorted([others_of(many, stand) for stand in stands]))


def least_crossing(stands):
    """The least stands that have a switch with each of some stands."""
    crossing = ((),)
    for stand in stands:
        crossing = least_of([together(one, (switch,)) for one in crossing for switch in stand])
    return crossing


def mirror(riser):
    """The riser that holds where the riser does not hold at all the other switches."""
    refuse_no_riser(riser)
    many, least = riser
    return many, least_crossing(least)


def greatest(riser):
    """The greatest stands at which the riser does not hold."""
    refuse_no_riser(riser)
    many, least = riser
    # The riser fails at a stand just where its mirror holds at all the other switches.
    return others_of_each(many, least_crossing(least))


def by_greatest(many, high):
    """The riser, of so many switches, whose greatest stands these are."""
    refuse_no_many(many)
    if not are_apart_of(high, many):
        raise NoStand("these are no stands apart of so many switches")
    # The switches off at the greatest stands are the least stands of the riser's mirror.
    return many, least_crossing(others_of_each(many, high))


def is_paper(thing, many):
    """Whether a thing of whatever kind is the least and greatest stands of a riser."""
    refuse_no_many(many)
    if not isinstance(thing, tuple) or len(thing) != 2:
        return False
    low, high = thing
    if not are_apart_of(low, many) or not are_apart_of(high, many):
        return False
    return high == greatest((many, low))
