"""What the tests are run over, made without the program."""

from itertools import combinations

BIG = 10 ** 30 - 1

# None of these is a riser, a stand or stands apart, whatever the riser is.
ODD_THINGS = [
    None, True, False, 0, 1, 3, -1, BIG, -BIG, "", "0", "01", "3 : 0", "a" * 80,
    [], [0], [(0,)], [3, ((0,),)], [()], {}, {0: 1}, {"many": 3}, {(): ()},
    (None,), (True,), (False,), (True, False), ("0",), ("",), (-1,), (BIG,),
    (0, "1"), ("1", 0), (0, None), (None, 0), (0, (1,)), ((1,), 0), (0, [1]),
    (0, 1, "2"), ((0,), "1"), ((0,), None), ((0,), [1]), ([0], (1,)), ({}, ()),
    ((), 3), (3, None, ()), ((((((((0,),),),),),),),), {"a": [({"b": [(None,)]},)]},
]

NO_RISERS = ODD_THINGS + [
    (0, ()), (6, ()), (-1, ()), (True, ()), ("3", ()), (3, []), [3, ()], (3, ()) * 2, (3,),
    (3, ([0],)), (3, [(0,)]), (3, ((1, 0),)), (3, ((1, 1),)), (3, ((0,), (0, 1))),
    (3, ((1,), (0,))), (3, ((0,), (0,))), (3, ((), ())), (3, ((True,),)), (3, ((0,), (True, 2))),
    (3, ((3,),)), (3, ((-1,),)), (3, (0,)), (3, ((0,), None)),
]

# None of these is a number of switches.
NO_MANY = [0, 6, -1, BIG, -BIG, True, False, None, "", "3", "1", (), (3,), [], [3], {}, {3: 3},
           (3, ()), ((),)]


def stands_of(many):
    """All stands of so many switches, by size."""
    return [stand for size in range(many + 1) for stand in combinations(range(many), size)]


def within(inner, outer):
    return set(inner) <= set(outer)


def holds_at(riser, stand):
    return any(within(one, stand) for one in riser[1])


def rest_of(many, stand):
    return tuple(switch for switch in range(many) if switch not in stand)


def rising_tables(many):
    """The tables, of so many switches, that fall nowhere, made half by half."""
    if many == 0:
        return ["0", "1"]
    halves = rising_tables(many - 1)
    return [low + high for low in halves for high in halves
            if all(a <= b for a, b in zip(low, high))]


def place_of(stand):
    return sum(2 ** switch for switch in stand)


def riser_with(many, text):
    """The riser with this table, by the very words: the least stands at which it holds."""
    held = [stand for stand in stands_of(many) if text[place_of(stand)] == "1"]
    least = [one for one in held
             if not any(other != one and within(other, one) for other in held)]
    return many, tuple(sorted(least))


def riser_where(many, truth):
    """The riser that holds at the stands of which truth tells so."""
    held = {place_of(stand): truth(stand) for stand in stands_of(many)}
    return riser_with(many, "".join("01"[held[place]] for place in range(2 ** many)))


def all_risers(many):
    """All risers of so many switches, but of five, where each 50th one goes for all."""
    texts = rising_tables(many)
    return [riser_with(many, text) for text in (texts if many < 5 else texts[::50] + texts[-1:])]


RISERS = {many: all_risers(many) for many in range(1, 6)}
EACH_RISER = [riser for many in range(1, 6) for riser in RISERS[many]]
