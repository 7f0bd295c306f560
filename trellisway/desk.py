"""The desk: it keeps a scheme, is told rows, and answers each with a text."""

from trellisway.apart import apart
from trellisway.errors import NoPlace, NoScheme, NoText, NoWord
from trellisway.few import few
from trellisway.mending import sure
from trellisway.nearest import nearest
from trellisway.pieces import settled
from trellisway.quiet import quiet
from trellisway.reading import check_text, read_heard, read_places, read_scheme, read_small, read_word
from trellisway.rest import rest
from trellisway.sending import is_ring, places_of, sent
from trellisway.showing import shown_word

MOST_BITS = 60


def check_count(words, count):
    if len(words) != count:
        raise NoText("the row has more or fewer words than it must have")


# What a row asks is read in full by one of these, ahead of all other refusals, from the words behind its first one.


def asked_nothing(words):
    check_count(words, 0)
    return []


def asked_word(words):
    check_count(words, 1)
    return [read_word(words[0])]


def asked_number(words):
    check_count(words, 1)
    return [read_small(words[0])]


def asked_places(words):
    check_count(words, 3)
    return [read_small(words[0]), read_places(words[1]), read_places(words[2])]


def numbers_and_signs(words, count):
    numbers = words[:count]
    check_count(numbers, count)
    return [read_small(word) for word in numbers] + [read_heard(" ".join(words[count:]))]


def asked_signs(words):
    return numbers_and_signs(words, 1)


def asked_most(words):
    return numbers_and_signs(words, 2)


ASKED = {
    "send": asked_word,
    "hear": asked_signs,
    "few": asked_most,
    "settled": asked_signs,
    "apart": asked_number,
    "quiet": asked_nothing,
    "rest": asked_number,
    "sure": asked_places,
}


def check_bits(count):
    if count > MOST_BITS:
        raise NoWord("a word has at most sixty bits")


def check_places(scheme, size, places):
    if max(places, default=-1) >= len(places_of(scheme, size)):
        raise NoPlace("a place is not among those of the sent signs")
    if len(set(places)) < len(places):
        raise NoPlace("a place is told twice")


def number_or_none(found):
    return "none" if found is None else str(found)


def shown_pair(pair):
    number = pair[0]
    word = shown_word(pair[1])
    return f"{number} {word}"


def shown_node(node):
    phase = node[0]
    room = node[1]
    return f"{phase}.{room}"


def answer_send(scheme, asked):
    check_bits(len(asked[0]))
    return shown_word(sent(scheme, asked[0]))


def answer_hear(scheme, asked):
    check_bits(asked[0])
    return shown_pair(nearest(scheme, asked[0], asked[1]))


def answer_few(scheme, asked):
    check_bits(asked[1])
    found = few(scheme, asked[1], asked[2], asked[0])
    return ", ".join([shown_pair(pair) for pair in found]) if len(found) > 0 else "none"


def answer_settled(scheme, asked):
    if is_ring(scheme):
        raise NoScheme("in a ring nothing is settled by a beginning")
    check_bits(asked[0])
    return shown_word(settled(scheme, asked[0], asked[1]))


def answer_apart(scheme, asked):
    check_bits(asked[0])
    found = apart(scheme, asked[0])
    return "none" if found is None else shown_pair(found)


def answer_quiet(scheme, asked):
    ring = quiet(scheme)
    return "none" if ring is None else " ".join([shown_node(node) for node in ring])


def answer_rest(scheme, asked):
    return number_or_none(rest(scheme, asked[0]))


def answer_sure(scheme, asked):
    check_bits(asked[0])
    check_places(scheme, asked[0], asked[1] + asked[2])
    found = sure(scheme, asked[0], asked[1], asked[2])
    if found is None:
        return "no"
    most = found[0]
    pause = number_or_none(found[1])
    return f"{most} {pause}"


ANSWERS = {
    "send": answer_send,
    "hear": answer_hear,
    "few": answer_few,
    "settled": answer_settled,
    "apart": answer_apart,
    "quiet": answer_quiet,
    "rest": answer_rest,
    "sure": answer_sure,
}


def words_of(row):
    check_text(row)
    words = row.split(" ")
    # Two blanks together, or one at the row's beginning or end, leave a word without signs.
    if "" in words or (words[0] != "scheme" and words[0] not in ASKED):
        raise NoText("this is none of the rows")
    return words


class Desk:
    def __init__(self):
        self.scheme = None

    def tell(self, row):
        words = words_of(row)
        if words[0] == "scheme":
            self.scheme = read_scheme(" ".join(words[1:]))
            return "ok"
        asked = ASKED[words[0]](words[1:])
        if self.scheme is None:
            raise NoScheme("no scheme is kept yet")
        return ANSWERS[words[0]](self.scheme, asked)
