"""Showing words, schemes, what is heard and places as texts, written so that they read as the same."""


def shown_bits(bits):
    return "".join([str(bit) for bit in bits])


def shown_word(word):
    return shown_bits(word) if len(word) > 0 else "-"


def shown_scheme(scheme):
    reach = scheme[0]
    taps = " ".join([str(tap) for tap in scheme[1]])
    rows = " ".join([shown_bits(row) for row in scheme[2]])
    ending = scheme[3]
    return f"reach {reach} taps {taps} rows {rows} {ending}"


def shown_sign(told):
    if told[0] == "gap":
        return "?"
    # A clear sign is written by its one number, a soft one by its two.
    return "/".join([str(number) for number in told[1:]])


def shown_heard(heard):
    return " ".join([shown_sign(told) for told in heard])


def shown_places(places):
    return ",".join([str(place) for place in places]) if len(places) > 0 else "-"
