from itertools import product

from onlyrisers.errors import NoRise, NoRiser, NoText
from onlyrisers.risers import holds, is_riser
from onlyrisers.tables import fall_of, riser_of, table
from tests.asking import Asking
from tests.making import NO_RISERS, ODD_THINGS, place_of, rising_tables, riser_with, stands_of

# Each written out by hand: riser and table.
TOLD = [
    ((1, ()), "00"),
    ((1, ((0,),)), "01"),
    ((1, ((),)), "11"),
    ((2, ()), "0000"),
    ((2, ((0,),)), "0101"),
    ((2, ((1,),)), "0011"),
    ((2, ((0, 1),)), "0001"),
    ((2, ((0,), (1,))), "0111"),
    ((2, ((),)), "1111"),
    ((3, ((0,), (1, 2))), "01010111"),
    ((3, ((0, 1), (2,))), "00011111"),
    ((3, ((0, 1), (0, 2), (1, 2))), "00010111"),
    ((3, ()), "00000000"),
    ((3, ((),)), "11111111"),
    ((4, ((3,),)), "0000000011111111"),
    ((4, ((0, 3), (1, 2))), "0000001101010111"),
    ((4, ()), "0" * 16),
    ((4, ((),)), "1" * 16),
    ((5, ((4,),)), "0" * 16 + "1" * 16),
    ((5, ((0, 1, 2, 3, 4),)), "0" * 31 + "1"),
    ((5, ((0, 4), (1, 2))), "0000001100000011" + "0101011101010111"),
    ((5, ()), "0" * 32),
    ((5, ((),)), "1" * 32),
]

WRONG_TEXTS = [
    "", "0", "1", "010", "00000", "0" * 6, "0" * 7, "0" * 9, "0" * 15, "0" * 17, "0" * 31,
    "0" * 33, "0" * 64, "0" * 80, "1" * 64, "1" * 3, "1" * 24, "02", "2" * 4, "0a", "ab", "  ",
    "0 ", " 1", "01\n", "0\n", "\n" * 2, "-1", "+1", "0x", "0O", "1l", "00010111 ", "0001 111",
    "0001,111", "0" * 31 + "2", "2" + "0" * 31, "0001011I", "[0]1", "(01)", "0_11",
]


class Table(Asking):
    """[12]: the table of a riser."""

    def test_written_out(self):
        for riser, text in TOLD:
            with self.subTest(riser=riser):
                self.assertEqual(table(riser), text)
                self.assertIs(type(table(riser)), str)

    def test_sign_by_sign(self):
        for riser, _ in TOLD:
            text = table(riser)
            self.assertEqual(len(text), 2 ** riser[0])
            for stand in stands_of(riser[0]):
                sign = "1" if holds(riser, stand) else "0"
                self.assertEqual(text[place_of(stand)], sign, (riser, stand))

    def test_no_riser(self):
        for thing in NO_RISERS:
            self.refused(NoRiser, table, thing)


class FallOf(Asking):
    """[12]: the first fall of a text."""

    def test_texts_that_fall_nowhere(self):
        for _, text in TOLD:
            self.assertIsNone(fall_of(text), text)

    def test_texts_that_fall(self):
        for text, fall in (("10", (0, 0)), ("0100", (1, 1)), ("0010", (2, 0)), ("1011", (0, 0)),
                           ("1101", (0, 1)), ("1110", (1, 1)), ("1000", (0, 0)),
                           ("00010110", (3, 2)), ("00000010", (6, 0)), ("00100011", (2, 0)),
                           ("00110101", (2, 2)), ("0" * 30 + "10", (30, 0)),
                           ("0" * 15 + "1" + "0" * 16, (15, 4))):
            with self.subTest(text=text):
                self.assertEqual(fall_of(text), fall)
                self.assertIs(type(fall_of(text)), tuple)

    def test_the_first_of_several_places(self):
        self.assertEqual(fall_of("01100000"), (1, 1))
        # The place goes first, though place 4 falls by a lesser switch than place 3 does.
        self.assertEqual(fall_of("00011000"), (3, 2))
        self.assertEqual(fall_of("00001110"), (5, 1))

    def test_the_first_of_several_switches(self):
        self.assertEqual(fall_of("10000000"), (0, 0))
        self.assertEqual(fall_of("11000000"), (0, 1))
        self.assertEqual(fall_of("11100000"), (0, 2))
        self.assertEqual(fall_of("1111000000000000"), (0, 2))

    def test_all_texts_of_one_to_three_switches(self):
        for many in range(1, 4):
            for signs in product("01", repeat=2 ** many):
                text = "".join(signs)
                falls = [(place_of(stand), switch)
                         for stand in stands_of(many) for switch in range(many)
                         if switch not in stand and text[place_of(stand)] == "1"
                         and text[place_of(stand + (switch,))] == "0"]
                self.assertEqual(fall_of(text), min(falls, default=None), text)

    def test_no_text(self):
        for thing in WRONG_TEXTS + [one for one in ODD_THINGS if one != "01"]:
            self.refused(NoText, fall_of, thing)
        for thing in (["0", "1"], ("0", "1"), ["01"], {"0": "1"}, 11, 10):
            self.refused(NoText, fall_of, thing)


class RiserOf(Asking):
    """[12]: the riser whose table a text is."""

    def test_written_out(self):
        for riser, text in TOLD:
            with self.subTest(text=text):
                self.assertEqual(riser_of(text), riser)

    def test_all_risers_there_are(self):
        for many, there_are in ((1, 3), (2, 6), (3, 20), (4, 168), (5, 7581)):
            texts = rising_tables(many)
            self.assertEqual(len(texts), there_are)
            for text in texts:
                riser = riser_of(text)
                self.assertEqual(table(riser), text)
                self.assertTrue(is_riser(riser), riser)

    def test_of_a_table_is_the_riser(self):
        for many in range(1, 5):
            for text in rising_tables(many):
                riser = riser_with(many, text)
                self.assertEqual(table(riser), text)
                self.assertEqual(riser_of(table(riser)), riser)

    def test_least_stands_rise_as_tuples_do(self):
        self.assertEqual(riser_of("00111111"), (3, ((1,), (2,))))
        self.assertEqual(riser_of("00011111"), (3, ((0, 1), (2,))))
        self.assertEqual(riser_of("0001001101011111"), (4, ((0, 1), (0, 3), (1, 2), (2, 3))))

    def test_just_the_texts_that_fall_are_refused(self):
        for many in range(1, 4):
            rising = rising_tables(many)
            for signs in product("01", repeat=2 ** many):
                text = "".join(signs)
                if text in rising:
                    self.assertEqual(riser_of(text), riser_with(many, text))
                else:
                    self.refused(NoRise, riser_of, text)

    def test_greater_texts_that_fall(self):
        for text in ("0" * 15 + "1" + "0" * 16, "1" * 31 + "0", "1" + "0" * 31, "1" * 15 + "0",
                     "1" * 16 + "0" * 16, "01" * 15 + "10"):
            self.refused(NoRise, riser_of, text)

    def test_no_text(self):
        for thing in WRONG_TEXTS + [one for one in ODD_THINGS if one != "01"]:
            self.refused(NoText, riser_of, thing)

    def test_no_text_goes_ahead_of_no_rise(self):
        for text in ("100", "1" + "0" * 63, "102 ", "10a0", "1"):
            self.refused(NoText, riser_of, text)


class NothingIsChanged(Asking):
    """[4]: what is handed in stays as it is, and the same asked has the same answer."""

    def test_it_all(self):
        for thing in ODD_THINGS + WRONG_TEXTS + ["10", "00010110", ["0", "1"], (3, [(0,)])]:
            for action in (table, fall_of, riser_of):
                self.asked_twice(action, thing)
        for riser, text in TOLD:
            self.asked_twice(table, riser)
            self.asked_twice(fall_of, text)
            self.asked_twice(riser_of, text)
