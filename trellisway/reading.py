"""Reading texts: numbers, words, schemes, what is heard, places."""

from trellisway.errors import NoScheme, NoText
from trellisway.schemes import ENDINGS, is_scheme

FIGURES = "0123456789"
MOST_FIGURES = 60
MOST_SMALL_FIGURES = 2


def check_text(found):
    if not isinstance(found, str):
        raise NoText("this is no text")


def is_made_of(text, signs):
    return len(text) > 0 and all([sign in signs for sign in text])


def read_figures(text, most):
    # Python's own int reads blanks, +, _ and other figures too, so the signs are looked at first.
    if not is_made_of(text, FIGURES) or len(text) > most or (text[0] == "0" and text != "0"):
        raise NoText("this is no number, or not one that can stand here")
    return int(text)


def read_small(text):
    return read_figures(text, MOST_SMALL_FIGURES)


def read_number(text):
    check_text(text)
    if not text.startswith("-"):
        return read_figures(text, MOST_FIGURES)
    number = read_figures(text[1:], MOST_FIGURES)
    if number == 0:
        raise NoText("0 is written without a - ahead")
    return -number


def read_bits(text):
    if not is_made_of(text, "01"):
        raise NoText("these are no bits")
    return [int(sign) for sign in text]


def read_word(text):
    check_text(text)
    return [] if text == "-" else read_bits(text)


def has_scheme_form(words):
    return words[0] == "reach" and words[2:3] == ["taps"] and "rows" in words and words[-1] in ENDINGS


def read_scheme(text):
    check_text(text)
    words = text.split(" ")
    if not has_scheme_form(words):
        raise NoText("a scheme is written as: reach R taps T .. rows B .. ENDING")
    split_at = words.index("rows")
    taps = [read_small(word) for word in words[3:split_at]]
    rows = [tuple(read_bits(word)) for word in words[split_at + 1 : -1]]
    reach = read_small(words[1])
    if len(taps) == 0 or len(rows) == 0:
        raise NoText("a scheme has one tap and one row at least")
    scheme = (reach, tuple(taps), tuple(rows), words[-1])
    if not is_scheme(scheme):
        raise NoScheme("this is written like a scheme, but is none")
    return scheme


def read_sign(word):
    if word == "?":
        return ("gap",)
    if "/" in word:
        parts = word.partition("/")
        return ("soft", read_number(parts[0]), read_number(parts[2]))
    if word == "0" or word == "1":
        return ("clear", int(word))
    raise NoText("this is no heard sign")


def read_heard(text):
    check_text(text)
    return [] if text == "" else [read_sign(word) for word in text.split(" ")]


def read_places(text):
    check_text(text)
    if text == "-":
        return []
    places = [read_figures(word, MOST_FIGURES) for word in text.split(",")]
    if any([place >= later for place, later in zip(places, places[1:])]):
        raise NoText("each place is above the one ahead")
    return places
