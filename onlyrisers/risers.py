"""Stands of switches, and the risers that are told by their least stands."""

from onlyrisers.errors import NoNumber, NoRiser, NoStand

MOST_SWITCHES = 5


def is_whole(thing):
    """Whether a thing of whatever kind is a whole number: an int that is no truth."""
    return isinstance(thing, int) and not isinstance(thing, bool)


def is_many(thing):
    """Whether a thing of whatever kind is a number of switches, from 1 to 5."""
    return is_whole(thing) and 1 <= thing <= MOST_SWITCHES


def is_switch_of(thing, many):
    """Whether a thing of whatever kind is one of so many switches."""
    return is_whole(thing) and 0 <= thing < many


def rises(things):
    """Whether each of some things that can be compared is greater than the one ahead."""
    return all(things[place - 1] < things[place] for place in range(1, len(things)))


def is_stand_of(thing, many):
    """Whether a thing of whatever kind is a stand of so many switches."""
    if not isinstance(thing, tuple):
        return False
    # The kinds go first: things of unlike kinds cannot be compared.
    return all(is_switch_of(one, many) for one in thing) and rises(thing)


def lies_within(inner, outer):
    """Whether the one stand lies within the other one."""
    return all(switch in outer for switch in inner)


def one_lies_within(stands):
    """Whether some stand lies within another one of a tuple of stands."""
    for place, one in enumerate(stands):
        for other in stands[place + 1:]:
            if lies_within(one, other) or lies_within(other, one):
                return True
    return False


def are_apart_of(thing, many):
    """Whether a thing of whatever kind is stands apart of so many switches."""
    if not isinstance(thing, tuple):
        return False
    if not all(is_stand_of(one, many) for one in thing):
        return False
    return rises(thing) and not one_lies_within(thing)


def together(one, other):
    """The stand of all switches that are on in the one or in the other stand."""
    return tuple(sorted(set(one + other)))


def has_another_within(stand, stands):
    """Whether another one of some stands lies within this stand."""
    return any(one != stand and lies_within(one, stand) for one in stands)


def least_of(stands):
    """Those of some stands within which no other one lies: stands apart."""
    unlike = sorted(set(stands))
    return tuple([one for one in unlike if not has_another_within(one, unlike)])


def is_riser(thing):
    """Whether a thing of whatever kind is a riser."""
    if not isinstance(thing, tuple) or len(thing) != 2:
        return False
    many, least = thing
    return is_many(many) and are_apart_of(least, many)


def refuse_no_riser(thing):
    """Raise NoRiser if a thing of whatever kind is no riser."""
    if not is_riser(thing):
        raise NoRiser("this is no riser")


def refuse_no_many(thing):
    """Raise NoNumber if a thing of whatever kind is no number of switches, from 1 to 5."""
    if not is_many(thing):
        raise NoNumber("this is no number of switches from 1 to 5")


def is_stand(thing, riser):
    """Whether a thing of whatever kind is a stand of the riser's switches."""
    refuse_no_riser(riser)
    return is_stand_of(thing, riser[0])


def are_apart(thing, riser):
    """Whether a thing of whatever kind is stands apart of the riser's switches."""
    refuse_no_riser(riser)
    return are_apart_of(thing, riser[0])


def holds_by(least, stand):
    """Whether a riser with these least stands holds at a stand of its switches."""
    return any(lies_within(one, stand) for one in least)


def holds(riser, stand):
    """Whether the riser holds at the stand."""
    refuse_no_riser(riser)
    many, least = riser
    if not is_stand_of(stand, many):
        raise NoStand("this is no stand of the riser's switches")
    return holds_by(least, stand)
