import itertools
import re
import unittest

import reference
from trellisway.errors import NoScheme, NoText
from trellisway.reading import read_heard, read_number, read_places, read_scheme, read_word
from trellisway.schemes import is_scheme

SIXTY = reference.SIXTY
READERS = (read_number, read_word, read_scheme, read_heard, read_places)

NUMBER = r"(?:0|-?[1-9][0-9]{0,59})"
PLACE = r"(?:0|[1-9][0-9]{0,59})"
SMALL = r"(?:0|[1-9][0-9]?)"
SIGN = rf"(?:[01?]|{NUMBER}/{NUMBER})"
SCHEME = rf"reach ({SMALL}) taps ({SMALL}(?: {SMALL})*) rows ([01]+(?: [01]+)*) (open|ended|ring)"

# Figures of other scripts, and signs that look like blanks and bits.
STRANGE = ("\u0661", "\u00b2", "\uff11", "\u2460", "\u0967", "\u00a0", "\u2003", "\u2212", "\x00", "\x1f", "\u200b")


def texts(signs, longest):
    for size in range(longest + 1):
        for chosen in itertools.product(signs, repeat=size):
            yield "".join(chosen)


def heard_of(word):
    if word == "?":
        return ("gap",)
    parts = [int(part) for part in word.split("/")]
    return ("soft", *parts) if len(parts) == 2 else ("clear", *parts)


def spoiled(text, signs):
    """Each text that is one sign away: one left out, one more, another one."""
    for place in range(len(text) + 1):
        for sign in signs:
            yield text[:place] + sign + text[place:]
            yield text[:place] + sign + text[place + 1 :]
        yield text[:place] + text[place + 1 :]


class Numbers(unittest.TestCase):
    def test_numbers(self):
        for number in (0, 1, 7, 9, 10, 42, 100, 10**58, 10**59, SIXTY, -1, -9, -10, -(10**59), -SIXTY):
            told = read_number(str(number))
            self.assertIs(type(told), int)
            self.assertEqual(told, number)

    def test_each_number_of_figures(self):
        for size in range(1, 61):
            for text in ("1" * size, "9" * size, "-" + "1" * size, "-" + "9" + "0" * (size - 1)):
                self.assertEqual(read_number(text), int(text))

    def test_refused(self):
        for text in (
            "", "-", "--", "-0", "00", "01", "007", "-01", "-00", "0" * 60, "1" + "0" * 60, "-1" + "0" * 60, "9" * 61,
            "1" * 5000, " ", " 1", "1 ", "- 1", "1 2", "+1", "+0", "--1", "1-", "1-2", "1_0", "1,0", "1.0", "1/2",
            "1e3", "0x1", "a", "1\n", "\n1", "1\r", "1\t", "-1\n", "1\n2", "one", "None", "True",
        ):
            reference.refused(self, NoText, read_number, text)
        for sign in STRANGE:
            for text in (sign, "1" + sign, sign + "1", "-" + sign, "1" + sign + "1"):
                reference.refused(self, NoText, read_number, text)

    def test_all_short_texts(self):
        for text in texts("-019 +/\n", 4):
            if re.fullmatch(NUMBER, text):
                self.assertEqual(read_number(text), int(text))
            else:
                reference.refused(self, NoText, read_number, text)


class Words(unittest.TestCase):
    def test_words(self):
        self.assertEqual(read_word("-"), [])
        self.assertEqual(read_word("0110"), [0, 1, 1, 0])
        for size in list(range(1, 7)) + [59, 60, 61, 100, 400]:
            for bits in ([0] * size, [1] * size, ([1, 0] * size)[:size]):
                told = read_word("".join(map(str, bits)))
                self.assertIs(type(told), list)
                self.assertEqual(told, bits)
                self.assertTrue(all(type(bit) is int for bit in told))

    def test_all_words_of_small_lengths(self):
        for size in range(1, 8):
            for word in reference.all_words(size):
                self.assertEqual(read_word("".join(map(str, word))), word)

    def test_refused(self):
        for text in (
            "", " ", " 01", "01 ", "0 1", "2", "012", "--", "-0", "0-", "-1", "+1", "01\n", "\n", "0\t1", "a", "O1",
            "0,1", "?", "0/1", "[0, 1]", "none",
        ):
            reference.refused(self, NoText, read_word, text)
        for sign in STRANGE:
            for text in (sign, "1" + sign, sign + "1"):
                reference.refused(self, NoText, read_word, text)

    def test_all_short_texts(self):
        for text in texts("01-2 \n", 4):
            if text == "-" or re.fullmatch("[01]+", text):
                self.assertEqual(read_word(text), [int(sign) for sign in text.strip("-")])
            else:
                reference.refused(self, NoText, read_word, text)


class Schemes(unittest.TestCase):
    def check(self, text):
        """The text by its form, and whether what has the form is a scheme."""
        found = re.fullmatch(SCHEME, text)
        if not found:
            reference.refused(self, NoText, read_scheme, text)
            return
        reach, taps, rows, ending = found.groups()
        scheme = (
            int(reach),
            tuple(int(tap) for tap in taps.split(" ")),
            tuple(tuple(int(bit) for bit in row) for row in rows.split(" ")),
            ending,
        )
        if is_scheme(scheme):
            self.assertEqual(read_scheme(text), scheme)
        else:
            reference.refused(self, NoScheme, read_scheme, text)

    def test_by_hand(self):
        told = read_scheme("reach 2 taps 7 5 rows 11 10 ended")
        self.assertEqual(told, (2, (7, 5), ((1, 1), (1, 0)), "ended"))
        self.assertEqual(read_scheme("reach 0 taps 0 rows 0 open"), (0, (0,), ((0,),), "open"))
        self.assertEqual(
            read_scheme("reach 4 taps 31 0 9 10 rows 1111 0000 0101 1000 0001 0110 ring"),
            (4, (31, 0, 9, 10), ((1, 1, 1, 1), (0, 0, 0, 0), (0, 1, 0, 1), (1, 0, 0, 0), (0, 0, 0, 1), (0, 1, 1, 0)),
             "ring"),
        )

    def test_each_reach_ending_number_of_taps_and_of_rows(self):
        for reach, ending in itertools.product(reference.REACHES, reference.ENDINGS):
            for taps, rows in itertools.product(range(1, 5), range(1, 7)):
                text = f"reach {reach} taps{f' {(2 << reach) - 1}' * taps} rows{' ' + '1' * taps}"
                text += f" {'0' * taps}" * (rows - 1) + f" {ending}"
                told = read_scheme(text)
                row = (1,) * taps
                expected = (reach, ((2 << reach) - 1,) * taps, (row,) + ((0,) * taps,) * (rows - 1), ending)
                self.assertEqual(told, expected)
                self.assertTrue(is_scheme(told))

    def test_what_has_not_the_form(self):
        for text in (
            "", " ", "-", "reach", "reach 2", "open", "ended",
            # A leading word left out, or another one.
            "2 taps 7 5 rows 11 ended", "reach 2 7 5 rows 11 ended", "reach 2 taps 7 5 11 ended",
            "Reach 2 taps 7 5 rows 11 ended", "reach 2 Taps 7 5 rows 11 ended", "reach 2 taps 7 5 Rows 11 ended",
            "room 2 taps 7 5 rows 11 ended", "reach 2 tap 7 5 rows 11 ended", "reach 2 taps 7 5 row 11 ended",
            "taps 2 taps 7 5 rows 11 ended", "reach 2 rows 7 5 rows 11 ended", "reach 2 taps 7 5 taps 11 ended",
            "rows 2 taps 7 5 rows 11 ended", "reach 2 rows 11 taps 7 5 ended", "taps 7 5 reach 2 rows 11 ended",
            "reach taps 7 5 rows 11 ended", "reach 2 2 taps 7 5 rows 11 ended", "reach rows taps 7 rows 11 ended",
            # No taps, no rows.
            "reach 2 taps rows 11 ended", "reach 2 taps 7 5 rows ended", "reach 2 taps rows ended",
            "reach 2 taps 7 5 ended", "reach 2 rows 11 ended", "reach 2 taps 7 5 rows", "reach rows taps 7 ended",
            # Another ending, none, two.
            "reach 2 taps 7 5 rows 11", "reach 2 taps 7 5 rows 11 end", "reach 2 taps 7 5 rows 11 Ended",
            "reach 2 taps 7 5 rows 11 ended ring", "reach 2 taps 7 5 rows 11 closed", "reach 2 taps 7 5 rows 11 none",
            "reach 2 taps 7 5 rows 11 open ended", "ended reach 2 taps 7 5 rows 11", "reach 2 taps 7 5 rows 11 rows",
            # A blank more, another sign in its place.
            " reach 2 taps 7 5 rows 11 ended", "reach 2 taps 7 5 rows 11 ended ", "reach  2 taps 7 5 rows 11 ended",
            "reach 2  taps 7 5 rows 11 ended", "reach 2 taps  7 5 rows 11 ended", "reach 2 taps 7  5 rows 11 ended",
            "reach 2 taps 7 5  rows 11 ended", "reach 2 taps 7 5 rows  11 ended", "reach 2 taps 7 5 rows 11  ended",
            "reach\t2 taps 7 5 rows 11 ended", "reach 2 taps 7 5 rows 11\nended", "reach 2 taps 7 5 rows 11 ended\n",
            "reach 2 taps 7,5 rows 11 ended", "reach2 taps 7 5 rows 11 ended",
            # Numbers that are not small, or not written so.
            "reach 02 taps 7 5 rows 11 ended", "reach 00 taps 7 5 rows 11 ended", "reach -2 taps 7 5 rows 11 ended",
            "reach 100 taps 7 5 rows 11 ended", "reach - taps 7 5 rows 11 ended", "reach +2 taps 7 5 rows 11 ended",
            "reach 2 taps 07 5 rows 11 ended", "reach 2 taps 7 05 rows 11 ended", "reach 2 taps 7 -5 rows 11 ended",
            "reach 2 taps 007 5 rows 11 ended", "reach 2 taps 100 5 rows 11 ended", "reach 2 taps 7 - rows 11 ended",
            "reach 2 taps 7 -0 rows 11 ended", "reach 2 taps 7 x rows 11 ended", "reach x taps 7 5 rows 11 ended",
            # Rows with other signs.
            "reach 2 taps 7 5 rows 12 ended", "reach 2 taps 7 5 rows 11 - ended", "reach 2 taps 7 5 rows - ended",
            "reach 2 taps 7 5 rows 1,1 ended", "reach 2 taps 7 5 rows 1? ended", "reach 2 taps 7 5 rows 11 xx ended",
            "reach 2 taps 7 5 rows 11 rows 10 ended", "reach 2 taps 7 5 rows 1\uff11 ended",
        ):
            self.assertIsNone(re.fullmatch(SCHEME, text), text)
            reference.refused(self, NoText, read_scheme, text)

    def test_what_has_the_form_and_is_no_scheme(self):
        for text in (
            "reach 5 taps 7 5 rows 11 ended", "reach 10 taps 7 5 rows 11 ended", "reach 99 taps 7 5 rows 11 ended",
            "reach 0 taps 2 rows 1 open", "reach 1 taps 4 rows 1 open", "reach 2 taps 7 8 rows 11 ended",
            "reach 3 taps 16 rows 1 ring", "reach 4 taps 32 rows 1 ring", "reach 4 taps 1 99 rows 11 ring",
            "reach 2 taps 1 2 3 4 5 rows 11111 ended", "reach 2 taps 1 2 3 4 5 6 7 rows 1111111 ended",
            "reach 2 taps 1 rows 1 1 1 1 1 1 1 ended", "reach 2 taps 1 rows 0 0 0 0 0 0 0 0 0 0 0 0 open",
            "reach 2 taps 7 5 rows 1 ended", "reach 2 taps 7 5 rows 111 ended", "reach 2 taps 7 5 rows 11 1 ended",
            "reach 2 taps 7 5 rows 11 101 ended", "reach 2 taps 7 5 rows 110 11 ended",
            "reach 2 taps 7 rows " + "1" * 300 + " ended",
        ):
            self.assertIsNotNone(re.fullmatch(SCHEME, text), text)
            reference.refused(self, NoScheme, read_scheme, text)

    def test_the_form_goes_ahead(self):
        for text in (
            "reach 5 taps 7 5 rows 12 ended", "reach 5 taps 07 5 rows 11 ended", "reach 5 taps 7 5 rows 11",
            "reach 2 taps 8 5 rows 11 ended ", "reach 2 taps 1 2 3 4 5 rows 1111x ended", "reach 9 taps rows 1 open",
            "reach 2 taps 7 5 rows 1 2 ended", "reach 2 taps 99 -1 rows 11 ended",
        ):
            reference.refused(self, NoText, read_scheme, text)

    def test_texts_one_sign_away(self):
        for text in ("reach 2 taps 7 5 rows 11 10 ended", "reach 0 taps 1 rows 1 open", "reach 4 taps 31 rows 0 ring"):
            for other in spoiled(text, " 0159-xs\t\n"):
                self.check(other)

    def test_words_left_out_doubled_and_exchanged(self):
        words = "reach 2 taps 7 5 rows 11 10 ended".split(" ")
        for place, other in itertools.product(range(len(words)), repeat=2):
            self.check(" ".join(words[:place] + words[place + 1 :]))
            self.check(" ".join(words[:place] + [words[other]] + words[place:]))
            self.check(" ".join(words[:place] + [words[other]] + words[place + 1 :]))

    def test_kinds(self):
        told = read_scheme("reach 2 taps 7 5 rows 11 10 ended")
        self.assertEqual([type(part) for part in told], [int, tuple, tuple, str])
        self.assertTrue(all(type(tap) is int for tap in told[1]))
        self.assertTrue(all(type(row) is tuple and all(type(bit) is int for bit in row) for row in told[2]))
        self.assertIs(type(told), tuple)


class Heard(unittest.TestCase):
    def test_by_hand(self):
        self.assertEqual(read_heard(""), [])
        self.assertEqual(read_heard("0"), [("clear", 0)])
        told = read_heard("1 ? 0 3/-4 ? 0/0 -1/1")
        expected = [("clear", 1), ("gap",), ("clear", 0), ("soft", 3, -4), ("gap",), ("soft", 0, 0), ("soft", -1, 1)]
        self.assertEqual(told, expected)
        self.assertIs(type(told), list)
        self.assertTrue(all(type(sign) is tuple for sign in told))

    def test_soft_signs_of_sixty_figures(self):
        for zero, one in itertools.product((SIXTY, -SIXTY, 10**59, 0, 1, -1), repeat=2):
            self.assertEqual(read_heard(f"{zero}/{one}"), [("soft", zero, one)])
            self.assertEqual(read_heard(f"1 {zero}/{one} ?"), [("clear", 1), ("soft", zero, one), ("gap",)])

    def test_many_signs(self):
        for count in (1, 2, 60, 400, 500):
            self.assertEqual(read_heard(" ".join(["0"] * count)), [("clear", 0)] * count)
            self.assertEqual(read_heard(" ".join(["?"] * count)), [("gap",)] * count)
            self.assertEqual(read_heard(" ".join([f"-7/{SIXTY}"] * count)), [("soft", -7, SIXTY)] * count)

    def test_refused(self):
        for text in (
            " ", "  ", " 0", "0 ", "0  1", "0 1 ", " ? ", "2", "-", "-1", "10", "00", "01", "??", "?0", "1?", "0/", "/0",
            "/", "//", "1//2", "1/2/3", "1/?", "?/1", "?/?", "-0/1", "1/-0", "01/1", "1/01", "-/1", "1/-", "+1/1", "1/+1",
            "1 /2", "1/ 2", "1 / 2", "0\t1", "0\n1", "0\n", "\n", "\t", "0,1", "x", "1/x", "x/1", "clear", "gap",
            f"1/1{SIXTY}", f"1{SIXTY}/1", f"1/-1{SIXTY}", "0 1 2", "0 ?? 1", "0 1/ 1", "1.0/2", "none",
        ):
            reference.refused(self, NoText, read_heard, text)
        for sign in STRANGE:
            for text in (sign, "1 " + sign, sign + "/1", "1/" + sign, "0" + sign + "1"):
                reference.refused(self, NoText, read_heard, text)

    def test_all_short_texts(self):
        for text in texts("01?/- 2", 5):
            if text == "" or re.fullmatch(rf"{SIGN}(?: {SIGN})*", text):
                self.assertEqual(read_heard(text), [heard_of(word) for word in text.split()], text)
            else:
                reference.refused(self, NoText, read_heard, text)


class Places(unittest.TestCase):
    def test_places(self):
        for places in ([0], [1], [0, 1], [3, 4, 10, 11, 99, 100], [0, SIXTY], [10**59, SIXTY - 1, SIXTY], list(range(400))):
            told = read_places(",".join(map(str, places)))
            self.assertIs(type(told), list)
            self.assertEqual(told, places)
            self.assertTrue(all(type(place) is int for place in told))
        self.assertEqual(read_places("-"), [])

    def test_refused(self):
        for text in (
            "", " ", ",", "--", "-0", "-1", "1,-2", "-1,2", "-,1", "1,-", "1,1", "0,0", "2,1", "1,2,2", "1,3,2", "5,4,6",
            "00", "01", "1,02", "0,00", "1,", ",1", "1,,2", " 1", "1 ", "1, 2", "1 ,2", "1 2", "1;2", "+1", "1,+2",
            "1\n", "1,2\n", "1\t", "?", "1/2", "x", "none", "1.0", f"1{SIXTY}", f"1,1{SIXTY}", "10,9", f"{SIXTY},1",
        ):
            reference.refused(self, NoText, read_places, text)
        for sign in STRANGE:
            for text in (sign, "1," + sign, sign + ",1", "1" + sign + "2"):
                reference.refused(self, NoText, read_places, text)

    def test_all_short_texts(self):
        for text in texts("0129,- ", 5):
            found = [int(word) for word in text.split(",")] if re.fullmatch(rf"{PLACE}(?:,{PLACE})*", text) else None
            if text == "-":
                self.assertEqual(read_places(text), [])
            elif found and found == sorted(set(found)):
                self.assertEqual(read_places(text), found)
            else:
                reference.refused(self, NoText, read_places, text)


class AllOfThem(unittest.TestCase):
    def test_what_is_no_text(self):
        for read in READERS:
            for found in reference.NO_TEXTS:
                reference.refused(self, NoText, read, found)

    def test_by_name(self):
        self.assertEqual(read_number(text="7"), 7)
        self.assertEqual(read_word(text="01"), [0, 1])
        self.assertEqual(read_scheme(text="reach 0 taps 1 rows 1 ring"), (0, (1,), ((1,),), "ring"))
        self.assertEqual(read_heard(text="?"), [("gap",)])
        self.assertEqual(read_places(text="4,5"), [4, 5])

    def test_told_lists_are_the_askers_own(self):
        for read, text in ((read_word, "-"), (read_word, "01"), (read_heard, ""), (read_heard, "0 ?"),
                           (read_places, "-"), (read_places, "0,1")):
            told = read(text)
            before = list(told)
            told.append("spoiled")
            self.assertEqual(read(text), before)


if __name__ == "__main__":
    unittest.main()
