"""How far the words of a length are apart."""

from trellisway.few import few
from trellisway.sending import places_of


def apart(scheme, size):
    # What is unlike in two words is a word itself, and is sent as what is unlike in what is sent of the two. So the
    # words are as far apart as the word of noughts and the one that is nearest to it. That one is told behind it, as
    # the word of noughts costs nothing and is the first of all.
    heard = [("clear", 0)] * len(places_of(scheme, size))
    found = few(scheme, size, heard, 2)
    return found[1] if len(found) == 2 else None
