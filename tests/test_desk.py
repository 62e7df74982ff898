from itertools import combinations, product

from onlyrisers.alike import least_alike
from onlyrisers.bounds import greatest, mirror
from onlyrisers.counts import holds_many
from onlyrisers.desk import Desk
from onlyrisers.errors import NoLine, NoNumber, NoRiser, NoStand, NoSwitch
from onlyrisers.forms import frugal_form
from onlyrisers.joins import both, either, held_off, held_on, mattering
from onlyrisers.tables import table
from onlyrisers.texts import show
from onlyrisers.weights import weights_for
from tests.asking import Asking
from tests.making import EACH_RISER, NO_RISERS, ODD_THINGS, RISERS, holds_at, stands_of

ASKS = ("told", "table", "many", "greatest", "matters", "alike", "weights", "frugal")

# Each written out by hand: what a new desk is told line by line, and what it answers.
TALKS = [
    [("told", "1 :"), ("table", "00"), ("many", "0"), ("greatest", "0"), ("matters", "-"),
     ("alike", "1 :"), ("weights", "yes"), ("frugal", "yes"), ("holds -", "no"),
     ("holds 0", "no")],
    [("mirror", "1 : -"), ("told", "1 : -"), ("table", "11"), ("many", "2"),
     ("greatest", "none"), ("matters", "-"), ("holds -", "yes"), ("holds 0", "yes")],
    [("either 1 : 0", "1 : 0"), ("greatest", "-"), ("matters", "0"), ("holds -", "no"),
     ("holds 0", "yes"), ("both 1 : -", "1 : 0"), ("both 1 :", "1 :"), ("either 1 :", "1 :"),
     ("either 1 : -", "1 : -")],
    [("riser 3 : 0 1,2", "3 : 0 1,2"), ("told", "3 : 0 1,2"), ("table", "01010111"),
     ("many", "5"), ("greatest", "1 2"), ("matters", "0,1,2"), ("alike", "3 : 0 1,2"),
     ("weights", "yes"), ("frugal", "yes"), ("holds -", "no"), ("holds 0", "yes"),
     ("holds 1", "no"), ("holds 1,2", "yes"), ("holds 0,1,2", "yes"), ("holds 0,2", "yes")],
    [("riser 3 : 0 1,2", "3 : 0 1,2"), ("either 3 : 1", "3 : 0 1"), ("back", "3 : 0 1,2"),
     ("both 3 : 1", "3 : 0,1 1,2"), ("back", "3 : 0 1,2"), ("mirror", "3 : 0,1 0,2"),
     ("back", "3 : 0 1,2"), ("on 1", "2 : 0 1"), ("back", "3 : 0 1,2"), ("off 1", "2 : 0"),
     ("back", "3 : 0 1,2"), ("back", "1 :")],
    [("riser 3 : 0 1,2", "3 : 0 1,2"), ("on 0", "2 : -"), ("off 1", "1 : -"), ("told", "1 : -"),
     ("back", "2 : -"), ("back", "3 : 0 1,2"), ("off 0", "2 : 0,1"), ("on 1", "1 : 0"),
     ("mirror", "1 : 0"), ("back", "1 : 0"), ("back", "2 : 0,1"), ("back", "3 : 0 1,2"),
     ("back", "1 :")],
    [("riser 3 : 0,1 2", "3 : 0,1 2"), ("alike", "3 : 0 1,2"), ("matters", "0,1,2"),
     ("greatest", "0 1"), ("told", "3 : 0,1 2")],
    [("riser 3 : 0,1 0,2 1,2", "3 : 0,1 0,2 1,2"), ("weights", "yes"), ("frugal", "no"),
     ("greatest", "0 1 2"), ("many", "4"), ("table", "00010111")],
    [("riser 4 : 0,1 2,3", "4 : 0,1 2,3"), ("weights", "no"), ("frugal", "yes"),
     ("greatest", "0,2 0,3 1,2 1,3"), ("many", "7"), ("on 3", "3 : 0,1 2"), ("weights", "yes")],
    [("riser 4 : 0,1 1,2 2,3", "4 : 0,1 1,2 2,3"), ("weights", "no"), ("frugal", "no")],
    [("riser 5 : -", "5 : -"), ("greatest", "none"), ("matters", "-"), ("many", "32"),
     ("table", "1" * 32), ("holds 0,1,2,3,4", "yes"), ("holds -", "yes"), ("alike", "5 : -"),
     ("mirror", "5 :"), ("greatest", "0,1,2,3,4"), ("holds 0,1,2,3,4", "no"), ("many", "0")],
    [("riser 5 : 1,4", "5 : 1,4"), ("matters", "1,4"), ("off 0", "4 : 0,3"), ("off 2", "3 : 0,2"),
     ("on 2", "2 : 0"), ("alike", "2 : 0"), ("on 1", "1 : 0"), ("table", "01")],
]

GOOD_LINES = ["riser 3 : 0 1,2", "either 3 : 0,1 2", "both 3 : 1", "mirror", "on 1", "off 2",
              "back", "told", "holds 0,2", "holds -", "table", "many", "greatest", "matters",
              "alike", "weights", "frugal", "riser 3 :", "either 3 :", "both 3 : -"]

NO_LINES = [
    "", " ", "  ", "-", "0", "x", "?", "Told", "TOLD", "told ", " told", "told  ", "told told",
    "told 0", "told -", "tol", "tolds", "told\n", "\ntold", "told\t", "table ", "table 0", "many ",
    "many 1", "greatest ", "greatest 1", "great", "matters ", "matters 0", "alike ", "alike 3 :",
    "weights ", "weights 0", "weight", "frugal ", "frugal -", "mirror ", " mirror", "mirror 0",
    "mirror mirror", "mirrors", "back ", " back", "back 1", "back back", "undo", "help",
    "riser", "riser ", "riser  ", "riser 3", "riser 3 ", "riser 3:", "riser 3 : ", "riser  3 :",
    "riser 3  :", "riser 3 :  0", "riser 3 : 0 ", "riser 3 : 0  1", " riser 3 : 0", "riser: 3 : 0",
    "riser 3 : 1 0", "riser 3 : 0 0", "riser 3 : 0 0,1", "riser 3 : 3", "riser 3 : 0,", "riser 0 :",
    "riser 6 :", "riser 9 :", "riser 10 :", "riser -1 :", "riser 3 : -0", "riser 3 : - -",
    "riser 3 : 2,1", "riser 3 : 1,1", "riser 3 : 0 -", "riser 3 : -,0", "riser -", "riser 0",
    "riser riser 3 :", "riser 03 :", "riser 3 : 00", "riser 3 : 0\n", "riser 3 : 0, 1",
    "either", "either ", "either 3", "either 3 : ", "either  3 :", "either 3 : 0 ", "either 9 : 0",
    "either 1 : 1", "either -", "both", "both ", "both 3", "both 3 : ", "both  3 :", "both 3 : 0 ",
    "both 9 : 0", "both 1 : 1", "both -", "both either 3 :", "eitherboth 3 :", "or 3 : 0",
    "on", "on ", "on  ", "on  0", "on 0 ", " on 0", "on 00", "on 01", "on 10", "on -1", "on -",
    "on +0", "on x", "on 0,1", "on 0 1", "on0", "on 0\n", "on zero", "On 0", "on on 0", "on 0x0",
    "off", "off ", "off  ", "off  0", "off 0 ", " off 0", "off 00", "off 01", "off 10", "off -1",
    "off -", "off x", "off 0,1", "off 0 1", "off0", "off 0.", "of 0", "on 12", "off 12",
    "holds", "holds ", "holds  ", "holds  0", "holds 0 ", " holds 0", "holds --", "holds -,0",
    "holds 0,-", "holds - ", "holds -0", "holds -1", "holds 0,0", "holds 1,0", "holds 2,1",
    "holds 0,2,1", "holds 0,1,1", "holds 9,8", "holds 9,9", "holds 0,,1", "holds ,", "holds ,0",
    "holds 0,", "holds 0, 1", "holds 0 ,1", "holds 0 1", "holds 00", "holds 01", "holds 10",
    "holds 0,10", "holds 012", "holds 0;1", "holds 0.1", "holds x", "holds 0,x", "holds (0)",
    "holds 0\n", "holds0", "hold 0", "holds holds 0", "holds 3 : 0", "holds ()", "holds +0",
    "a" * 80, " " * 80, "0" * 80, "riser 3 : " + "0 " * 35,
]


def switches_text(stand):
    return ",".join(str(switch) for switch in stand) if stand else "-"


# What a riser and a stand may be written as, where the lines that are told here are turned.
WRITTEN = {show(riser) for riser in EACH_RISER} | {
    show((many, least)) for many in (4, 5) for _, least in RISERS[3]}
STANDS = {switches_text(stand) for size in range(4) for stand in combinations(range(10), size)}


def is_line(line):
    """Whether a text is a line of the desk, by the very words."""
    if line in ASKS or line in ("mirror", "back"):
        return True
    word, blank, rest = line.partition(" ")
    if word in ("riser", "either", "both"):
        return rest in WRITTEN
    if word in ("on", "off"):
        return len(rest) == 1 and rest in "0123456789"
    return word == "holds" and rest in STANDS


class DeskCase(Asking):
    def refuses(self, desk, error, *lines):
        """What is refused changes nothing: the riser that is kept is told the same."""
        for line in lines:
            with self.subTest(line=line):
                before = desk.say("told")
                with self.assertRaises(error) as caught:
                    desk.say(line)
                self.assertIs(type(caught.exception), error)
                self.same(desk.say("told"), before)


class Lines(DeskCase):
    """[101]: each line of the desk."""

    def test_written_out(self):
        for talk in TALKS:
            desk = Desk()
            for line, told in talk:
                self.same(desk.say(line), told)

    def test_at_first_one_switch_that_never_holds(self):
        for line, told in TALKS[0]:
            self.same(Desk().say(line), told)

    def test_asks_of_each_riser(self):
        for riser in EACH_RISER:
            desk = Desk()
            self.same(desk.say("riser " + show(riser)), show(riser))
            self.same(desk.say("told"), show(riser))
            self.same(desk.say("table"), table(riser))
            self.same(desk.say("many"), str(holds_many(riser)))
            high = " ".join(switches_text(stand) for stand in greatest(riser))
            self.same(desk.say("greatest"), high if greatest(riser) else "none")
            self.same(desk.say("matters"), switches_text(mattering(riser)))
            self.same(desk.say("weights"), "no" if weights_for(riser) is None else "yes")
            self.same(desk.say("frugal"), "no" if frugal_form(riser) is None else "yes")
            for stand in stands_of(riser[0]):
                told = "yes" if holds_at(riser, stand) else "no"
                self.same(desk.say("holds " + switches_text(stand)), told)

    def test_alike_of_many_risers(self):
        for riser in EACH_RISER[::9]:
            desk = Desk()
            desk.say("riser " + show(riser))
            self.same(desk.say("alike"), show(least_alike(riser)))

    def test_deeds_of_each_riser(self):
        for riser in EACH_RISER:
            many = riser[0]
            desk = Desk()
            desk.say("riser " + show(riser))
            deeds = [("mirror", mirror(riser))]
            for other in RISERS[many][::len(RISERS[many]) // 5 + 1]:
                deeds.append(("either " + show(other), either(riser, other)))
                deeds.append(("both " + show(other), both(riser, other)))
                deeds.append(("riser " + show(other), other))
            for switch in range(many if many > 1 else 0):
                deeds.append((f"on {switch}", held_on(riser, switch)))
                deeds.append((f"off {switch}", held_off(riser, switch)))
            for line, told in deeds:
                self.same(desk.say(line), show(told))
                self.same(desk.say("told"), show(told))
                self.same(desk.say("back"), show(riser))

    def test_back_until_nothing_stands(self):
        desk = Desk()
        self.refuses(desk, NoNumber, "back", "back")
        lines = ["riser 3 : 0 1,2", "mirror", "riser 3 : 0 1,2", "either 3 : 2", "either 3 : 2",
                 "both 3 : 0,1", "on 1", "off 0", "mirror", "mirror"]
        answers = ["1 :"] + [desk.say(line) for line in lines]
        for told in answers[-2::-1]:
            self.same(desk.say("back"), told)
        self.refuses(desk, NoNumber, "back", "back", "back")
        self.same(desk.say("mirror"), "1 : -")
        self.same(desk.say("back"), "1 :")
        self.refuses(desk, NoNumber, "back")

    def test_back_behind_asks_and_refusals(self):
        desk = Desk()
        desk.say("riser 3 : 0 1,2")
        desk.say("mirror")
        for line in ASKS + ("holds 0", "holds -"):
            desk.say(line)
        self.refuses(desk, NoLine, "mirror ", "on x", "riser 3", "back ")
        self.refuses(desk, NoSwitch, "on 3", "off 9")
        self.refuses(desk, NoRiser, "either 2 : 0", "both 4 :")
        self.refuses(desk, NoStand, "holds 3")
        self.same(desk.say("back"), "3 : 0 1,2")
        for line in ASKS:
            desk.say(line)
        self.same(desk.say("back"), "1 :")
        self.refuses(desk, NoNumber, "back")

    def test_what_is_undone_is_as_if_it_had_not_been_told(self):
        desk = Desk()
        desk.say("riser 3 : 0 1,2")
        for _ in range(3):
            desk.say("mirror")
            desk.say("on 2")
            self.same(desk.say("back"), "3 : 0,1 0,2")
            self.same(desk.say("back"), "3 : 0 1,2")
        self.same(desk.say("off 2"), "2 : 0")
        self.same(desk.say("back"), "3 : 0 1,2")
        self.same(desk.say("back"), "1 :")
        self.refuses(desk, NoNumber, "back")

    def test_no_riser_of_unlike_many_switches(self):
        for many, other in product(range(1, 6), repeat=2):
            desk = Desk()
            desk.say(f"riser {many} : 0")
            for least in ("", " -", " 0"):
                for word in ("either", "both"):
                    line = f"{word} {other} :{least}"
                    if many != other:
                        self.refuses(desk, NoRiser, line)
                    else:
                        desk.say(line)
                        desk.say("back")
            # Another one to be kept may have any number of switches.
            self.same(desk.say(f"riser {other} :"), f"{other} :")

    def test_no_switch_ahead_of_no_number(self):
        for many in range(1, 6):
            desk = Desk()
            desk.say(f"riser {many} : 0")
            for word in ("on", "off"):
                self.refuses(desk, NoSwitch, *[f"{word} {switch}" for switch in range(many, 10)])
        for desk_lines in ([], ["mirror"], ["riser 1 : 0"], ["riser 2 : 0", "on 0"]):
            desk = Desk()
            for line in desk_lines:
                desk.say(line)
            self.refuses(desk, NoNumber, "on 0", "off 0")
            self.refuses(desk, NoSwitch, "on 1", "off 1", "on 9", "off 9")

    def test_no_stand(self):
        for many in range(1, 6):
            desk = Desk()
            desk.say(f"riser {many} : 0")
            for size in (1, 2, 3, 5, 10):
                for stand in combinations(range(10), size):
                    line = "holds " + switches_text(stand)
                    if stand[-1] >= many:
                        self.refuses(desk, NoStand, line)
                    else:
                        self.same(desk.say(line), "yes" if 0 in stand else "no")


class NoLines(DeskCase):
    """[102]: what is no line is refused with NoLine, ahead of all else."""

    def test_it_all_told_to_several_desks(self):
        for lines in ([], ["riser 1 : 0"], ["riser 3 : 0 1,2"], ["riser 5 : 1,4", "mirror"]):
            desk = Desk()
            for line in lines:
                desk.say(line)
            self.refuses(desk, NoLine, *NO_LINES)

    def test_what_is_no_text(self):
        desk = Desk()
        desk.say("riser 3 : 0 1,2")
        for thing in [thing for thing in ODD_THINGS + NO_RISERS if not isinstance(thing, str)]:
            self.refuses(desk, NoLine, thing)
        self.refuses(desk, NoLine, ["told"], ("told",), {"told": 1}, b"told", [], None, 0)

    def test_texts_that_are_no_lines(self):
        desk = Desk()
        self.refuses(desk, NoLine, *[thing for thing in ODD_THINGS if isinstance(thing, str)])

    def told_or_no_line(self, lines):
        """What is none of the told lines is refused with NoLine, however near it is to one."""
        for line in lines:
            desk = Desk()
            desk.say("riser 3 : 0 1,2")
            if is_line(line):
                try:
                    desk.say(line)
                except (NoRiser, NoSwitch, NoStand):
                    pass
            else:
                self.refuses(desk, NoLine, line)

    def test_a_sign_left_out_put_in_or_exchanged(self):
        for line in GOOD_LINES:
            for at in range(len(line) + 1):
                self.told_or_no_line([line[:at] + line[at + 1:]])
                for sign in " 0129-,:x\n":
                    self.told_or_no_line([line[:at] + sign + line[at:],
                                          line[:at] + sign + line[at + 1:]])

    def test_a_word_left_out_twice_or_put_in(self):
        for line in GOOD_LINES:
            words = line.split(" ")
            for at, word in enumerate(words):
                ahead, behind = words[:at], words[at + 1:]
                self.told_or_no_line(" ".join(ahead + more + behind) for more in (
                    [], [word, word], [word, ""], ["", word], [word, "0"], ["0", word],
                    [word, "told"], ["told", word], [word, ":"], [word.upper()], ["back"]))

    def test_ahead_of_all_else(self):
        desk = Desk()
        # There is nothing to be undone, only one switch, and another number of switches.
        self.refuses(desk, NoLine, "back ", "on  0", "on 0 ", "off 00", "either 2 : 0 ",
                     "both 2 :  0", "either 6 : 0", "holds 9,8", "holds 9,9", "on 9 ", "holds 5 ")
        self.refuses(desk, NoNumber, "back", "on 0", "off 0")
        self.refuses(desk, NoRiser, "either 2 : 0", "both 2 : 0")
        self.refuses(desk, NoStand, "holds 8,9", "holds 5")
        self.refuses(desk, NoSwitch, "on 9")


class NothingInCommon(DeskCase):
    """[102], [4]: two desks have nothing in common, and what is asked changes nothing."""

    def test_two_desks(self):
        one, other = Desk(), Desk()
        one.say("riser 3 : 0 1,2")
        self.same(other.say("told"), "1 :")
        self.refuses(other, NoNumber, "back")
        other.say("mirror")
        self.same(one.say("told"), "3 : 0 1,2")
        one.say("mirror")
        self.same(other.say("back"), "1 :")
        self.same(one.say("back"), "3 : 0 1,2")
        self.same(Desk().say("told"), "1 :")

    def test_what_is_asked_changes_nothing(self):
        for riser in EACH_RISER[::20]:
            desk = Desk()
            desk.say("riser " + show(riser))
            answers = [desk.say(line) for line in ASKS]
            self.assertEqual([desk.say(line) for line in ASKS[::-1]], answers[::-1])
            self.same(desk.say("back"), "1 :")
            self.refuses(desk, NoNumber, "back")

    def test_say_is_of_the_class_itself(self):
        self.assertIn("say", vars(Desk))
        self.assertEqual(Desk.__module__, "onlyrisers.desk")
