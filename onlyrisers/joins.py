"""Risers joined and met, with a switch held, and named by another order."""

from onlyrisers.errors import NoNumber, NoRiser, NoSwitch
from onlyrisers.risers import holds_by, is_switch_of, least_of, refuse_no_riser, together


def refuse_no_pair(one, other):
    """Raise NoRiser if one of two things is no riser, or they are of unlike many switches."""
    refuse_no_riser(one)
    refuse_no_riser(other)
    if one[0] != other[0]:
        raise NoRiser("these risers are of unlike many switches")


def either(one, other):
    """The riser that holds where the one or the other does."""
    refuse_no_pair(one, other)
    return one[0], least_of(one[1] + other[1])


def both(one, other):
    """The riser that holds where the one and the other do."""
    refuse_no_pair(one, other)
    return one[0], least_of([together(low, high) for low in one[1] for high in other[1]])


def is_below(one, other):
    """Whether the other riser holds wherever the one does."""
    refuse_no_pair(one, other)
    # The one holds at no stand that has none of its least stands within it.
    return all(holds_by(other[1], stand) for stand in one[1])


def refuse_not_held(riser, switch):
    """Raise what is due where the switch of the riser cannot be held on or off."""
    refuse_no_riser(riser)
    if not is_switch_of(switch, riser[0]):
        raise NoSwitch("this is no switch of the riser")
    if riser[0] == 1:
        raise NoNumber("this riser has no other switch")


def without(stand, switch):
    """The stand of the other switches that are on, each above the switch one less."""
    return tuple([one - 1 if one > switch else one for one in stand if one != switch])


def held_on(riser, switch):
    """The riser of the other switches that is left with the switch on."""
    refuse_not_held(riser, switch)
    many, least = riser
    return many - 1, least_of([without(stand, switch) for stand in least])


def held_off(riser, switch):
    """The riser of the other switches that is left with the switch off."""
    refuse_not_held(riser, switch)
    many, least = riser
    return many - 1, least_of([without(stand, switch) for stand in least if switch not in stand])


def mattering(riser):
    """The switches that matter: by which alone the riser comes to hold at some stand."""
    refuse_no_riser(riser)
    # No least stand can do without one of its switches, and none else is ever called for.
    return tuple(sorted({switch for stand in riser[1] for switch in stand}))


def is_order_of(thing, many):
    """Whether a thing of whatever kind is a tuple of all of so many switches, each once."""
    if not isinstance(thing, tuple):
        return False
    # The kinds go first: things of unlike kinds cannot be sorted.
    return all(is_switch_of(one, many) for one in thing) and sorted(thing) == list(range(many))


def by_places(stand, order):
    """The stand with each switch called by its place in the order."""
    return tuple(sorted([order.index(switch) for switch in stand]))


def named(riser, order):
    """The riser with the switch at each place of the order called by that place."""
    refuse_no_riser(riser)
    many, least = riser
    if not is_order_of(order, many):
        raise NoSwitch("this is no order of the riser's switches")
    # Other names leave stands apart, but not in order.
    return many, tuple(sorted([by_places(stand, order) for stand in least]))
