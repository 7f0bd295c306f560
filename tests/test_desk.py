import itertools
import random
import unittest

import reference
from trellisway.apart import apart
from trellisway.desk import Desk
from trellisway.errors import NoPlace, NoScheme, NoSigns, NoText, NoWord, WayError
from trellisway.few import few
from trellisway.mending import sure
from trellisway.nearest import nearest
from trellisway.pieces import settled
from trellisway.quiet import quiet
from trellisway.rest import rest
from trellisway.sending import sent
from trellisway.showing import shown_heard, shown_places, shown_scheme

USUAL = "scheme reach 2 taps 7 5 rows 11 10 ended"
RING = "scheme reach 2 taps 7 5 rows 11 10 ring"
NAMES = ("scheme", "send", "hear", "few", "settled", "apart", "quiet", "rest", "sure")

# For a desk with the scheme USUAL or RING one good row of each sort, scheme and settled left out.
GOOD_ENDED = ("send 101", "hear 3 1 1 ? 0 1 1 4/-1 1", "few 5 3 1 1 ? 0 1 1 4/-1 1", "apart 3", "quiet", "rest 3",
              "sure 3 0 5")
GOOD_RING = ("send 101", "hear 3 0 1 0 0 ?", "few 5 3 0 1 0 0 ?", "apart 3", "quiet", "rest 3", "sure 3 0 3")


def word_text(word):
    return "".join(map(str, word)) or "-"


def with_signs(row, heard):
    return " ".join([row] + [shown_heard([sign]) for sign in heard])


def desk_with(scheme):
    desk = Desk()
    desk.tell("scheme " + shown_scheme(scheme))
    return desk


def desk_of(*rows):
    desk = Desk()
    for row in rows:
        desk.tell(row)
    return desk


def answer_of(desk, row):
    try:
        return desk.tell(row)
    except WayError as refusal:
        return type(refusal)


class ByHand(unittest.TestCase):
    def check(self, rows_and_answers):
        desk = Desk()
        for row, answer in rows_and_answers:
            told = desk.tell(row)
            self.assertIs(type(told), str)
            self.assertEqual(told, answer, row)

    def test_ended(self):
        self.check((
            (USUAL, "ok"),
            ("send 101", "11100111"),
            ("send -", "000"),
            ("hear 3 1 1 ? 0 1 1 4/-1 1", "0 101"),
            ("hear 3 1 1 1 0 1 1 1 1", "1 101"),
            ("hear 3 1 1 1 0 0 1 -4/1 1", "-1 110"),
            ("hear 0 0 1 -7/3", "-6 -"),
            ("few 2 3 1 1 ? 0 1 1 4/-1 1", "0 101, 2 001"),
            ("few 5 3 1 1 ? 0 1 1 4/-1 1", "0 101, 2 001, 2 011, 2 111, 5 110"),
            ("few 1 3 1 1 ? 0 1 1 4/-1 1", "0 101"),
            ("few 0 3 1 1 ? 0 1 1 4/-1 1", "none"),
            ("few 99 1 1 1 1 1 1", "0 1, 5 0"),
            ("settled 3 1 1 1 0 0", "1"),
            ("settled 0", "-"),
            ("settled 1 1 1", "-"),
            ("apart 3", "3 010"),
            ("apart 0", "none"),
            ("quiet", "none"),
            ("rest 0", "0"),
            ("rest 3", "12"),
            ("sure 3 0 -", "1 12"),
            ("sure 3 - 0,5", "0 4"),
            ("sure 3 0 5,7", "no"),
            ("sure 3 - -", "0 4"),
            ("sure 0 0,1 2", "2 20"),
        ))

    def test_open(self):
        self.check((
            ("scheme reach 1 taps 3 1 rows 11 open", "ok"),
            ("send 110", "110110"),
            ("send -", "-"),
            ("hear 0", "0 -"),
            ("hear 2 1 1 0 5/-2", "-2 11"),
            ("few 4 2 ? ? ? ?", "0 00, 0 01, 0 10, 0 11"),
            ("few 7 0", "0 -"),
            ("few 0 0", "none"),
            ("settled 2 1 1 0 1", "1"),
            ("apart 2", "2 01"),
            ("quiet", "none"),
            ("rest 1", "1"),
            ("sure 2 - 1", "0 none"),
            ("sure 2 1 -", "no"),
            ("sure 0 - -", "0 none"),
        ))

    def test_ring(self):
        self.check((
            ("scheme reach 1 taps 3 rows 1 ring", "ok"),
            ("send 011", "110"),
            ("hear 3 1 1 0", "0 011"),
            ("few 3 3 1 1 0", "0 011, 0 100, 2 000"),
            ("apart 3", "0 111"),
            ("quiet", "0.1"),
            ("rest 1", "none"),
            ("rest 0", "0"),
            ("sure 3 - -", "no"),
        ))

    def test_nothing_is_sent(self):
        self.check((
            ("scheme reach 1 taps 3 1 rows 00 open", "ok"),
            ("send 110", "-"),
            ("hear 3", "0 000"),
            ("few 2 3", "0 000, 0 001"),
            ("few 9 0", "0 -"),
            ("settled 3", "00"),
            ("apart 3", "0 001"),
            ("sure 3 - -", "no"),
        ))

    def test_a_rest_that_is_none(self):
        self.check((
            ("scheme reach 1 taps 3 3 rows 11 ended", "ok"),
            ("rest 40", "none"),
            ("sure 9 0 19", "1 none"),
            ("sure 9 - -", "0 none"),
        ))

    def test_a_quiet_ring_of_several_nodes(self):
        desk = desk_of("scheme reach 2 taps 7 rows 1 1 ended")
        nodes = desk.tell("quiet").split(" ")
        self.assertIn(len(nodes), (3, 6))
        self.assertRegex(desk.tell("quiet"), r"\A[01]\.[123]( [01]\.[123])*\Z")

    def test_costs_of_more_than_sixty_figures(self):
        desk = desk_of("scheme reach 0 taps 1 rows 1 open")
        row = "hear 60" + f" {reference.SIXTY}/{reference.SIXTY}" * 60
        self.assertEqual(desk.tell(row), f"{60 * reference.SIXTY} {'0' * 60}")


class AgainstTheFunctions(unittest.TestCase):
    def check_words(self, desk, scheme, size, chance):
        word = [chance.randrange(2) for _ in range(size)]
        self.assertEqual(desk.tell("send " + word_text(word)), word_text(sent(scheme, word)))
        for heard in reference.hearings(reference.sent_count(scheme, size), size):
            cost, found = nearest(scheme, size, heard)
            self.assertEqual(desk.tell(with_signs(f"hear {size}", heard)), f"{cost} {word_text(found)}")
            for most in (0, 1, 2, 5):
                pairs = [f"{cost} {word_text(found)}" for cost, found in few(scheme, size, heard, most)]
                self.assertEqual(desk.tell(with_signs(f"few {most} {size}", heard)), ", ".join(pairs) or "none")

    def check_settled(self, desk, scheme, steps):
        count = reference.sent_count(reference.opened(scheme), steps)
        for heard in reference.hearings(count, steps):
            expected = word_text(settled(scheme, steps, heard))
            self.assertEqual(desk.tell(with_signs(f"settled {steps}", heard)), expected)

    def check_apart(self, desk, scheme, size):
        told = apart(scheme, size)
        expected = "none" if told is None else f"{told[0]} {word_text(told[1])}"
        self.assertEqual(desk.tell(f"apart {size}"), expected)

    def check_sure(self, desk, scheme, size, chance):
        places = list(range(reference.sent_count(scheme, size)))
        for number, wrong_ones in ((0, 0), (1, 0), (1, 1), (2, 1), (3, 1), (4, 0), (4, 2)):
            chosen = chance.sample(places, min(number, len(places)))
            wrong = sorted(chosen[:wrong_ones])
            gaps = sorted(chosen[wrong_ones:])
            told = sure(scheme, size, wrong, gaps)
            expected = "no" if told is None else f"{told[0]} {'none' if told[1] is None else told[1]}"
            row = f"sure {size} {shown_places(wrong)} {shown_places(gaps)}"
            self.assertEqual(desk.tell(row), expected, (scheme, row))

    def check_quiet_ways(self, desk, scheme):
        ring = quiet(scheme)
        expected = "none" if ring is None else " ".join(f"{phase}.{room}" for phase, room in ring)
        self.assertEqual(desk.tell("quiet"), expected)
        for ones in (0, 1, 2, 3, 10, 40, 99):
            told = rest(scheme, ones)
            self.assertEqual(desk.tell(f"rest {ones}"), "none" if told is None else str(told))

    def test_each_row(self):
        chance = random.Random(91)
        for scheme in reference.schemes():
            desk = desk_with(scheme)
            self.check_quiet_ways(desk, scheme)
            for size in reference.sizes_of(scheme, 4):
                self.check_words(desk, scheme, size, chance)
                self.check_apart(desk, scheme, size)
                self.check_sure(desk, scheme, size, chance)
                if scheme[3] != "ring":
                    self.check_settled(desk, scheme, size)

    def test_many_schemes(self):
        chance = random.Random(92)
        for scheme in reference.random_schemes(93, 1):
            desk = desk_with(scheme)
            self.check_quiet_ways(desk, scheme)
            self.check_apart(desk, scheme, 5)
            self.check_sure(desk, scheme, 5, chance)
            self.check_words(desk, scheme, 5, chance)

    def test_sixty_bits(self):
        chance = random.Random(94)
        for scheme in reference.schemes(reaches=(0, 2, 4)):
            desk = desk_with(scheme)
            self.check_apart(desk, scheme, 60)
            self.check_sure(desk, scheme, 60, chance)
            word = [chance.randrange(2) for _ in range(60)]
            self.assertEqual(desk.tell("send " + word_text(word)), word_text(sent(scheme, word)))
            heard = list(reference.hearings(reference.sent_count(scheme, 60), 95))[-1]
            cost, found = nearest(scheme, 60, heard)
            self.assertEqual(desk.tell(with_signs("hear 60", heard)), f"{cost} {word_text(found)}")
            if scheme[3] != "ring":
                begun = heard[: reference.sent_count(reference.opened(scheme), 60)]
                self.assertEqual(desk.tell(with_signs("settled 60", begun)), word_text(settled(scheme, 60, begun)))

    def test_ninety_nine_words_of_sixty_bits(self):
        scheme = (4, (31, 21, 1, 17), ((1, 1, 1, 1),), "ring")
        heard = list(reference.hearings(240, 96))[3]
        pairs = [f"{cost} {word_text(found)}" for cost, found in few(scheme, 60, heard, 99)]
        self.assertEqual(len(pairs), 99)
        self.assertEqual(desk_with(scheme).tell(with_signs("few 99 60", heard)), ", ".join(pairs))


class Keeping(unittest.TestCase):
    def test_a_scheme_behind_another_one(self):
        desk = Desk()
        for scheme in reference.schemes(reaches=(0, 1, 2)):
            self.assertEqual(desk.tell("scheme " + shown_scheme(scheme)), "ok")
            self.assertEqual(desk.tell("send 1011"), word_text(sent(scheme, [1, 0, 1, 1])))

    def test_with_a_scheme_refused_the_former_one_stays(self):
        desk = desk_of(USUAL)
        for row, refusal in (
            ("scheme", NoText), ("scheme ", NoText), ("scheme reach 5 taps 7 5 rows 11 ended", NoScheme),
            ("scheme reach 2 taps 7 5 rows 11", NoText), ("scheme reach 2 taps 7 5 rows 1 ended", NoScheme),
        ):
            reference.refused(self, refusal, desk.tell, row)
            self.assertEqual(desk.tell("send 101"), "11100111")

    def test_with_the_first_scheme_refused_none_is_kept(self):
        for row in ("scheme reach 5 taps 7 5 rows 11 ended", "scheme reach 2"):
            desk = Desk()
            self.assertIn(answer_of(desk, row), (NoScheme, NoText))
            reference.refused(self, NoScheme, desk.tell, "quiet")

    def test_two_desks_beside_one_another(self):
        one = Desk()
        other = Desk()
        one.tell(USUAL)
        reference.refused(self, NoScheme, other.tell, "send 101")
        other.tell(RING)
        self.assertEqual(one.tell("send 101"), "11100111")
        self.assertEqual(other.tell("send 101"), "01000")
        other.tell("scheme reach 0 taps 1 rows 1 open")
        self.assertEqual(one.tell("send 101"), "11100111")
        self.assertEqual(other.tell("send 101"), "101")

    def test_rows_change_nothing_but_by_scheme(self):
        desk = desk_of(USUAL)
        first = [desk.tell(row) for row in GOOD_ENDED]
        for _ in range(2):
            self.assertEqual([desk.tell(row) for row in reversed(GOOD_ENDED)], first[::-1])


class NoTexts(unittest.TestCase):
    # Rows that are refused with NoText whatever the desk keeps.
    ROWS = (
        "", " ", "  ", "-", "0", "open", "row", "sends 101", "Send 101", "SEND 101", "send101", "hearing 3", "ok",
        "scheme", "scheme ", " scheme", "scheme 2", "scheme reach 2", "Scheme reach 2 taps 7 5 rows 11 ended",
        "scheme reach 2 taps 7 5 rows 11 ended ", " scheme reach 2 taps 7 5 rows 11 ended",
        "scheme  reach 2 taps 7 5 rows 11 ended", "scheme reach 2 taps 7 5  rows 11 ended",
        "scheme\treach 2 taps 7 5 rows 11 ended", "scheme reach 2 taps 7 5 rows 11 ended\n",
        "scheme scheme reach 2 taps 7 5 rows 11 ended", "reach 2 taps 7 5 rows 11 ended",
        "scheme reach 2 taps 7 5 rows 12 ended", "scheme reach 02 taps 7 5 rows 11 ended",
        "send", "send ", "send 2", "send 1 0", "send 101 -", "send --", "send 1\t", "send 10a", "send ?", "send 1,0",
        "hear", "hear ", "hear -", "hear x", "hear 03 1", "hear -3 1", "hear 100 1", "hear 3 ", "hear 3  1", "hear 3 2",
        "hear 3 1 1 1 1 1 1 1 x", "hear 3 1 1 1 1 1 1 1 1 ", "hear 3 1 1 1 1 1 1 1 1/", "hear 3 -", "hear 3 01",
        "hear 3 1\t1 1 1 1 1 1 1", "hear 3,1", "hear 3 1,1", "hear ? 1", "hear +3 1", "hear 3.0 1", "hear 3 ??",
        "few", "few 2", "few 2 ", "few -", "few x 3", "few 2 x", "few 02 3", "few 2 03", "few -2 3", "few 2 -3",
        "few 100 3", "few 2 100", "few 2 3 ", "few  2 3", "few 2  3", "few 2 3 2", "few 2 3 x", "few ? 3 1",
        "settled", "settled ", "settled x", "settled 03", "settled -1", "settled 100", "settled 3 ", "settled 3 x",
        "settled - 1", "settled 3  1", "settled 3 1 1 1 1 2",
        "apart", "apart ", "apart x", "apart -", "apart 03", "apart 100", "apart -1", "apart 3 3", "apart 3 ",
        "quiet ", " quiet", "quiet 1", "quiet -", "quiet\n", "quiet quiet", "Quiet", "quie",
        "rest", "rest ", "rest x", "rest -", "rest -1", "rest 03", "rest 100", "rest 1 1", "rest 1 ", "rest none",
        "sure", "sure 3", "sure 3 0", "sure 3 -", "sure 3 - - -", "sure 3 - - ", "sure 3  - -", "sure x - -",
        "sure 03 - -", "sure 100 - -", "sure -1 - -", "sure - - -", "sure 3 x -", "sure 3 - x", "sure 3 0,0 -",
        "sure 3 - 1,1", "sure 3 1,0 -", "sure 3 - 2,1", "sure 3 00 -", "sure 3 - 01", "sure 3 -1 -", "sure 3 0, -",
        "sure 3 0, 1 -", "sure 3 ,0 -", "sure 3 0 1,", "sure 3 0;1 -", "sure 3 ? -", "sure 3 0 1 2",
    )

    def desks(self):
        return (Desk(), desk_of(USUAL), desk_of(RING), desk_of("scheme reach 1 taps 3 1 rows 00 open"))

    def test_rows_that_are_none(self):
        for row in self.ROWS:
            for desk in self.desks():
                reference.refused(self, NoText, desk.tell, row)

    def test_what_is_no_text(self):
        for row in reference.NO_TEXTS + (b"quiet", ["quiet"], ("send", "101"), {"quiet": 1}):
            for desk in self.desks():
                reference.refused(self, NoText, desk.tell, row)

    def test_blanks(self):
        for setting, rows in ((USUAL, GOOD_ENDED + ("settled 2 1 1 1",)), (RING, GOOD_RING)):
            for row in rows + (setting,):
                desk = desk_of(setting)
                desk.tell(row)
                others = [" " + row, row + " ", "  " + row, row + "\n", "\n" + row, row + "\t", row + "\r\n"]
                for place in [place for place, sign in enumerate(row) if sign == " "]:
                    for blank in ("  ", "\t", "\n", " \n", "\u00a0", "\u2003"):
                        others.append(row[:place] + blank + row[place + 1 :])
                for other in others:
                    reference.refused(self, NoText, desk.tell, other)

    def test_another_first_word(self):
        for row in GOOD_ENDED:
            name = row.split(" ")[0]
            for other in ("", "x" + name, name + "x", name.upper(), name[:-1], name + ":"):
                reference.refused(self, NoText, desk_of(USUAL).tell, other + row[len(name) :])


class Refusals(unittest.TestCase):
    def check(self, refusal, rows, *settings):
        for row in rows:
            reference.refused(self, refusal, desk_of(*settings).tell, row)

    def test_good_rows_without_a_scheme(self):
        self.check(NoScheme, GOOD_ENDED + GOOD_RING + ("settled 2 1 1 1", "settled 0", "hear 0", "few 0 0", "rest 0"))

    def test_schemes_that_are_none(self):
        rows = ("scheme reach 5 taps 7 5 rows 11 ended", "scheme reach 2 taps 7 8 rows 11 ended",
                "scheme reach 2 taps 1 1 1 1 1 rows 11111 ended", "scheme reach 2 taps 1 rows 1 1 1 1 1 1 1 ended",
                "scheme reach 2 taps 7 5 rows 1 ended", "scheme reach 2 taps 7 5 rows 11 111 ended")
        self.check(NoScheme, rows)
        self.check(NoScheme, rows, USUAL)
        self.check(NoScheme, rows, RING)

    def test_more_than_sixty_bits(self):
        rows = ("send " + "1" * 61, "send " + "0" * 99, "send " + "01" * 200, "hear 61" + " 1" * 95, "hear 99",
                "few 2 61" + " 1" * 95, "few 0 61" + " 1" * 95, "few 2 99", "apart 61", "apart 99", "sure 61 - -",
                "sure 99 0 1")
        self.check(NoWord, rows + ("settled 61" + " 1" * 92, "settled 99"), USUAL)
        self.check(NoWord, rows, RING)
        self.check(NoWord, rows + ("settled 61", "hear 61"), "scheme reach 1 taps 3 1 rows 00 open")

    def test_as_many_signs_as_are_sent_of_sixty_one_bits(self):
        for scheme in reference.schemes():
            desk = desk_with(scheme)
            signs = " 1" * reference.sent_count(scheme, 61)
            for row in ("hear 61" + signs, "few 2 61" + signs, "apart 61", "sure 61 - -"):
                reference.refused(self, NoWord, desk.tell, row)
            if scheme[3] != "ring":
                signs = " 1" * reference.sent_count(reference.opened(scheme), 61)
                reference.refused(self, NoWord, desk.tell, "settled 61" + signs)

    def test_sixty_bits_are_not_refused(self):
        desk = desk_of("scheme reach 1 taps 3 1 rows 01 ended")
        for row in ("send " + "1" * 60, "hear 60" + " 1" * 61, "few 2 60" + " 1" * 61, "settled 60" + " 1" * 60,
                    "apart 60", "sure 60 - 0", "rest 61", "rest 99", "few 99 60" + " 1" * 61):
            self.assertIs(type(desk.tell(row)), str)

    def test_sizes_below_the_reach_in_a_ring(self):
        for scheme in reference.schemes(endings=("ring",)):
            desk = desk_with(scheme)
            for size in range(scheme[0]):
                signs = " 1" * (size * len(scheme[1]))
                rows = ["send " + ("1" * size or "-"), f"hear {size}", f"hear {size}{signs}", f"few 2 {size}",
                        f"few 0 {size}{signs}", f"apart {size}", f"sure {size} - -", f"sure {size} 0 1"]
                for row in rows:
                    reference.refused(self, NoWord, desk.tell, row)

    def test_other_than_as_many_signs_as_are_sent(self):
        for scheme in reference.schemes():
            desk = desk_with(scheme)
            for size in list(reference.sizes_of(scheme, 3)) + [60]:
                count = reference.sent_count(scheme, size)
                rows = [(f"hear {size}", count), (f"few 2 {size}", count), (f"few 0 {size}", count)]
                if scheme[3] != "ring":
                    rows.append((f"settled {size}", reference.sent_count(reference.opened(scheme), size)))
                for row, right in rows:
                    self.assertIs(type(desk.tell(row + " ?" * right)), str)
                    for wrong in {0, right - 1, right + 1, 400} - {-1, right}:
                        for sign in (" 1", " ?", " 3/-3"):
                            reference.refused(self, NoSigns, desk.tell, row + sign * wrong)

    def test_places_that_are_not_there(self):
        for scheme in reference.schemes():
            desk = desk_with(scheme)
            for size in list(reference.sizes_of(scheme, 3)) + [60]:
                count = reference.sent_count(scheme, size)
                for place in (count, count + 1, 10 * count + 7, reference.SIXTY - 1):
                    last = f"{count - 1},{place}" if count else str(place)
                    for wrong, gaps in ((place, "-"), ("-", place), (last, "-"), ("-", last), (place, place + 1)):
                        reference.refused(self, NoPlace, desk.tell, f"sure {size} {wrong} {gaps}")
                if count:
                    self.assertIs(type(desk.tell(f"sure {size} {count - 1} -")), str)
                    self.assertIs(type(desk.tell(f"sure {size} - {count - 1}")), str)

    def test_places_told_twice(self):
        for setting in (USUAL, RING, "scheme reach 2 taps 7 5 rows 11 open"):
            rows = ("sure 4 0 0", "sure 4 0,2 2,3", "sure 4 2 0,1,2", "sure 4 0,1,2,3 0,1,2,3", "sure 4 3,4 1,3")
            self.check(NoPlace, rows, setting)
            self.check(NoText, ("sure 4 0,0 -", "sure 4 - 3,3", "sure 4 0,0 0", "sure 4 1,2,2 2"), setting)

    def test_settled_in_a_ring(self):
        rows = ("settled 3 1 1 1 1 1", "settled 0", "settled 1", "settled 3", "settled 61", "settled 99 1", "settled 60")
        self.check(NoScheme, rows, RING)
        self.check(NoScheme, rows, "scheme reach 0 taps 1 rows 0 ring")


class Order(unittest.TestCase):
    """Rows for which two refusals are due at least: the first one in the document's order is told."""

    def check(self, refusal, setting, *rows):
        for row in rows:
            desk = desk_of(setting) if setting else Desk()
            reference.refused(self, refusal, desk.tell, row)

    def test_no_text_ahead_of_no_scheme(self):
        self.check(NoText, None, "send 2", "hear 3 x", "few 2 3 x", "settled 3 x", "apart 03", "quiet 1", "rest -1",
                   "sure 3 1,0 -", "sure 3 - 1,0")
        self.check(NoText, None, "scheme reach 5 taps 7 rows 2 ended", "scheme reach 2 taps 7 5 rows 1 11  ended")
        self.check(NoText, RING, "settled 3 x", "settled 03", "settled", "settled 3 1 1 1 1 1 ", "settled 100")

    def test_no_text_ahead_of_no_word(self):
        for setting in (USUAL, RING):
            self.check(NoText, setting, "send " + "1" * 61 + "2", "send " + "1" * 61 + " 1", "hear 61 x", "few 2 61 x",
                       "few 02 61", "apart 61 1", "sure 61 1,0 -", "sure 61 - x", "sure 61 -")
        self.check(NoText, USUAL, "settled 61 x")
        self.check(NoText, RING, "hear 1 x", "few 2 1 2", "sure 1 1,1 -", "send 1 ", "apart 1 x")

    def test_no_text_ahead_of_no_signs(self):
        self.check(NoText, USUAL, "hear 3 1 x", "few 2 3 1 2", "few 02 3 1", "settled 3 1 x", "hear 3 1 ", "hear 03 1")

    def test_no_text_ahead_of_no_place(self):
        for setting in (USUAL, RING):
            self.check(NoText, setting, "sure 3 99,98 -", "sure 3 99 x", "sure 3 x 99", "sure 3 0,0 0", "sure 3 0 0,0",
                       "sure 3 99 - -", "sure 3 99")

    def test_no_scheme_ahead_of_no_word(self):
        self.check(NoScheme, None, "send " + "1" * 61, "hear 61", "few 2 61", "settled 61", "apart 61", "sure 61 - -")
        self.check(NoScheme, RING, "settled 61", "settled 61 1", "settled 1", "settled 99 1 1 1")

    def test_no_scheme_ahead_of_no_signs(self):
        self.check(NoScheme, None, "hear 3" + " 1" * 400, "few 2 3" + " 1" * 400, "settled 3" + " 1" * 400)
        self.check(NoScheme, RING, "settled 3", "settled 3" + " 1" * 400, "settled 3 1")

    def test_no_scheme_ahead_of_no_place(self):
        self.check(NoScheme, None, "sure 3 99 -", "sure 3 - 99", "sure 3 0 0", f"sure 3 {reference.SIXTY} -")

    def test_no_word_ahead_of_no_signs(self):
        for setting in (USUAL, RING, "scheme reach 2 taps 7 5 rows 11 open"):
            for count in (0, 1, 60, 400):
                self.check(NoWord, setting, "hear 61" + " 1" * count, "few 2 61" + " 1" * count)
        for count in (0, 1, 60, 400):
            self.check(NoWord, USUAL, "settled 61" + " 1" * count)
            self.check(NoWord, RING, "hear 1" + " 1" * count, "few 2 0" + " 1" * count)

    def test_no_word_ahead_of_no_place(self):
        for setting in (USUAL, RING, "scheme reach 2 taps 7 5 rows 11 open"):
            self.check(NoWord, setting, "sure 61 999 -", "sure 61 - 999", "sure 61 0 0", "sure 99 999 999")
        self.check(NoWord, RING, "sure 1 999 -", "sure 1 - 999", "sure 0 0 0")


class WhatIsRefusedChangesNothing(unittest.TestCase):
    BAD = NoTexts.ROWS[::5] + (
        None, 7, "scheme reach 5 taps 7 5 rows 11 open", "scheme reach 1 taps 3 rows 11 open", "scheme reach 1 taps 3",
        "send " + "1" * 61, "hear 61", "hear 3 1", "hear 3" + " 1" * 400, "few 2 61", "few 2 3 1", "settled 61",
        "settled 3 1", "apart 61", "sure 61 - -", "sure 3 99 -", "sure 3 0 0", "send -x",
    )

    def test_with_a_scheme(self):
        for setting, rows in ((USUAL, GOOD_ENDED + ("settled 2 1 1 1",)), (RING, GOOD_RING)):
            desk = desk_of(setting)
            before = [desk.tell(row) for row in rows]
            for bad in self.BAD:
                self.assertIsNot(type(answer_of(desk, bad)), str, bad)
                self.assertEqual([desk.tell(row) for row in rows], before, bad)

    def test_without_a_scheme(self):
        desk = Desk()
        for bad in self.BAD:
            self.assertIn(answer_of(desk, bad), (NoText, NoScheme), bad)
            reference.refused(self, NoScheme, desk.tell, "quiet")
        self.assertEqual(desk.tell(USUAL), "ok")
        self.assertEqual(desk.tell("send 101"), "11100111")

    def test_the_ring_stays_behind_settled(self):
        desk = desk_of(RING)
        reference.refused(self, NoScheme, desk.tell, "settled 3 1 1 1 1 1")
        self.assertEqual(desk.tell("send 101"), "01000")


class Rows(unittest.TestCase):
    """Rows of all sorts of words: each is answered with a text or refused with one of the refusals."""

    WORDS = ("send", "hear", "few", "settled", "apart", "quiet", "rest", "sure", "-", "0", "3", "61", "101", "?", "1/2",
             "0,1", "x", "")

    def test_short_rows(self):
        for desk in (Desk(), desk_of(USUAL), desk_of(RING)):
            for size in (1, 2, 3):
                for words in itertools.product(self.WORDS, repeat=size):
                    row = " ".join(words)
                    told = answer_of(desk, row)
                    if "" in words or words[0] not in NAMES or "x" in words:
                        self.assertIs(told, NoText, row)
                    else:
                        self.assertTrue(type(told) is str or told in (NoText, NoScheme, NoWord, NoSigns, NoPlace), row)

    def test_by_name(self):
        desk = Desk()
        self.assertEqual(desk.tell(row=USUAL), "ok")


if __name__ == "__main__":
    unittest.main()
