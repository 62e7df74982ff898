from itertools import permutations, product

from onlyrisers.errors import NoRiser, NoText
from onlyrisers.tables import riser_of
from onlyrisers.texts import read, show
from tests.asking import Asking
from tests.making import EACH_RISER, NO_RISERS, ODD_THINGS, rising_tables

# Each written out by hand: riser and text.
WRITTEN = [
    ((1, ()), "1 :"),
    ((1, ((),)), "1 : -"),
    ((1, ((0,),)), "1 : 0"),
    ((2, ()), "2 :"),
    ((2, ((),)), "2 : -"),
    ((2, ((1,),)), "2 : 1"),
    ((2, ((0, 1),)), "2 : 0,1"),
    ((2, ((0,), (1,))), "2 : 0 1"),
    ((3, ()), "3 :"),
    ((3, ((),)), "3 : -"),
    ((3, ((0,), (1, 2))), "3 : 0 1,2"),
    ((3, ((0, 1), (2,))), "3 : 0,1 2"),
    ((3, ((0, 1), (0, 2), (1, 2))), "3 : 0,1 0,2 1,2"),
    ((3, ((0, 1, 2),)), "3 : 0,1,2"),
    ((4, ()), "4 :"),
    ((4, ((),)), "4 : -"),
    ((4, ((0, 1), (0, 2), (1, 2, 3))), "4 : 0,1 0,2 1,2,3"),
    ((4, ((0,), (1,), (2,), (3,))), "4 : 0 1 2 3"),
    ((5, ()), "5 :"),
    ((5, ((),)), "5 : -"),
    ((5, ((0, 1, 2, 3, 4),)), "5 : 0,1,2,3,4"),
    ((5, ((0, 1, 2), (0, 3), (1, 4))), "5 : 0,1,2 0,3 1,4"),
    ((5, ((0, 1), (2,), (3, 4))), "5 : 0,1 2 3,4"),
]

SIGNS = " 0123456789,:-+;._|()[]aO\t\n\r"


def all_texts():
    """Every text there is, with its riser, made without the program's own writing."""
    texts = {}
    for many in range(1, 6):
        for riser in map(riser_of, rising_tables(many)):
            words = [",".join(map(str, stand)) if stand else "-" for stand in riser[1]]
            texts[" ".join([str(many), ":"] + words)] = riser
    return texts


ALL_TEXTS = all_texts()


class Show(Asking):
    """[13]: a riser is written."""

    def test_written_out(self):
        for riser, text in WRITTEN:
            self.same(show(riser), text)

    def test_all_there_are(self):
        self.assertEqual(len(ALL_TEXTS), 3 + 6 + 20 + 168 + 7581)
        for text, riser in ALL_TEXTS.items():
            self.same(show(riser), text)

    def test_no_riser(self):
        for thing in NO_RISERS + [text for _, text in WRITTEN]:
            self.refused(NoRiser, show, thing)


class Read(Asking):
    """[13]: what is written is read to the same."""

    def test_written_out(self):
        for riser, text in WRITTEN:
            self.same(read(text), riser)

    def test_all_there_are(self):
        for text, riser in ALL_TEXTS.items():
            self.same(read(text), riser)

    def test_what_is_written_is_read_to_the_same(self):
        for riser in EACH_RISER:
            self.same(read(show(riser)), riser)


class ReadRefuses(Asking):
    """[13]: what, of whatever kind, is not written so is refused with NoText."""

    def read_or_refused(self, text):
        if text in ALL_TEXTS:
            self.same(read(text), ALL_TEXTS[text])
        else:
            self.refused(NoText, read, text)

    def test_a_sign_left_out_put_in_or_exchanged_at_any_place(self):
        for _, text in WRITTEN:
            for place in range(len(text) + 1):
                ahead, behind = text[:place], text[place:]
                self.read_or_refused(ahead + behind[1:])
                for sign in SIGNS:
                    self.read_or_refused(ahead + sign + behind)
                    self.read_or_refused(ahead + sign + behind[1:])

    def test_a_word_left_out_twice_or_exchanged(self):
        for _, text in WRITTEN:
            told = text.split(" ")
            for place in range(len(told)):
                self.read_or_refused(" ".join(told[:place] + told[place + 1:]))
                self.read_or_refused(" ".join(told[:place + 1] + told[place:]))
                for other in range(place):
                    mixed = list(told)
                    mixed[place], mixed[other] = told[other], told[place]
                    self.read_or_refused(" ".join(mixed))
                for word in ("", "-", "--", "0", "1", "4", "5", "6", "0,1", "1,0", "0,0", ":", "::",
                             ",", "0,", ",0", "0,,1", "-,0", "0,-", "()", "None", "00", "01"):
                    self.read_or_refused(" ".join(told[:place] + [word] + told[place + 1:]))
                    self.read_or_refused(" ".join(told[:place] + [word] + told[place:]))
                    self.read_or_refused(" ".join(told + [word]))

    def test_all_short_texts(self):
        for size in range(6):
            for signs in product("0123 :,-", repeat=size):
                text = "".join(signs)
                if text in ALL_TEXTS:
                    self.same(read(text), ALL_TEXTS[text])
                else:
                    with self.assertRaises(NoText, msg=text):
                        read(text)

    def test_all_words_of_two_switches(self):
        texts = ["-", "0", "1", "0,1", "1,0", "0,0", "2"]
        for size in range(4):
            for told in product(texts, repeat=size):
                self.read_or_refused(" ".join(["2", ":"] + list(told)))

    def test_least_stands_out_of_order(self):
        for told in permutations(["0,1", "0,2,3", "1,2", "2,4"]):
            self.read_or_refused(" ".join(["5", ":"] + list(told)))

    def test_blanks(self):
        for text in (" 3 : 0", "3 : 0 ", "3  : 0", "3 :  0", "3 : 0  1,2", "3 : 0 1,2 ", " 3 :",
                     "3 : ", "3:", "3: 0", "3 :0", "3 : 0, 1", "3 : 0 ,1", " ", "  ", "   "):
            self.refused(NoText, read, text)

    def test_tabs_and_line_ends(self):
        for text in ("3\t: 0", "3 :\t0", "3 : 0\t1,2", "3 : 0\n", "\n3 : 0", "3 : 0\r\n", "3 :\n",
                     "3 : 0\n1,2", "3\n: 0", "3 : 0,\t1", "3 : 0,1\x0b", "3 : 0\x0c1",
                     "3 : 0\n3 : 0", "\t", "\n"):
            self.refused(NoText, read, text)

    def test_none_on_among_others(self):
        for text in ("3 : - 0", "3 : 0 -", "3 : - -", "3 : -,0", "3 : 0,-", "3 : -,-", "3 : --",
                     "3 : ()", "3 : - ()", "3 : () -", "3 : ,", "3 -", "3 - :", "- : 0"):
            self.refused(NoText, read, text)

    def test_switches_and_numbers_that_are_none(self):
        for many in range(1, 6):
            for switch in range(10):
                self.read_or_refused(f"{many} : {switch}")
                self.read_or_refused(f"{many} : 0,{switch}")
            for switch in ("-1", "+0", "00", "01", "10", "0x0", "0.0", "0_0", "9" * 30):
                self.refused(NoText, read, f"{many} : {switch}")
        for many in ("0", "6", "7", "9", "-1", "-3", "+3", "03", "3.0", "10", "13", "30", "x", "",
                     "three", "3_", "0x3", "9" * 30):
            for rest in (" :", " : -", " : 0", ""):
                self.refused(NoText, read, many + rest)

    def test_not_rising_or_not_apart(self):
        for text in ("3 : 1,0", "3 : 0,0", "3 : 1,2 0", "3 : 0 0", "3 : 0 0,1", "3 : 0,1 1",
                     "3 : 0,1 0,1", "3 : 2 1", "3 : 0,2,1", "3 : 0,1 0,1,2"):
            self.refused(NoText, read, text)

    def test_signs_that_are_figures_elsewhere(self):
        for sign in "\u0663\u0661\u0660\u06f0\u0967\uff13\uff10\u00b3\u00b9\u2070\u2460\u2162\u4e00":
            for text in (f"{sign} :", f"{sign} : 0", f"3 : {sign}", f"3 : 0,{sign}", f"3 : {sign},2",
                         f"3 : 0 {sign}"):
                self.refused(NoText, read, text)

    def test_signs_alike_elsewhere(self):
        for text in ("3\u00a0: 0", "3 : 0\u00a01", "3 \uff1a 0", "3 : \u2212", "3 : \u2013",
                     "3 : 0\uff0c1", "3 : 0\u2003", "3 :\u3000" + "0"):
            self.refused(NoText, read, text)

    def test_what_is_no_text(self):
        for thing in [one for one in ODD_THINGS if one != "3 : 0"] + EACH_RISER[:30]:
            self.refused(NoText, read, thing)
        for thing in (3, True, None, ["3 : 0"], ["3", ":", "0"], ("3", ":", "0"), ("3 : 0",),
                      {"3 : 0": 0}, {"3": ":"}, [3, ":"], list("3 : 0"), tuple("3 : 0")):
            self.refused(NoText, read, thing)


class NothingIsChanged(Asking):
    """[4]: what is handed in stays as it is, and the same asked has the same answer."""

    def test_it_all(self):
        for thing in NO_RISERS + [["3", ":", "0"], "3 : 1,0"]:
            self.asked_twice(show, thing)
            self.asked_twice(read, thing)
        for riser, text in WRITTEN:
            self.asked_twice(show, riser)
            self.asked_twice(read, text)
