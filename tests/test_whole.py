"""What is promised over the whole program: its parts hold together, and nothing is shared with the asker."""

import copy
import importlib
import inspect
import random
import unittest

import reference
from trellisway.apart import apart
from trellisway.costs import ahead, cost
from trellisway.desk import Desk
from trellisway.few import few
from trellisway.mending import blocks, sure
from trellisway.nearest import nearest
from trellisway.pieces import kept, settled
from trellisway.quiet import quiet, ranks
from trellisway.reading import read_heard, read_number, read_places, read_scheme, read_word
from trellisway.rest import fewest, rest, sparse
from trellisway.schemes import is_scheme, rooms, sent_at, step
from trellisway.sending import bits_of, places_of, rooms_of, sent, steps_of
from trellisway.showing import shown_heard, shown_places, shown_scheme, shown_word
from trellisway.signs import sign_of

INTERFACE = {
    "signs": ("sign_of(told)",),
    "schemes": ("is_scheme(found)", "rooms(scheme)", "step(scheme, room, bit)", "sent_at(scheme, number, signs)"),
    "sending": ("bits_of(scheme, word)", "rooms_of(scheme, word)", "sent(scheme, word)", "steps_of(scheme, size)",
                "places_of(scheme, size)"),
    "costs": ("cost(scheme, word, heard)", "ahead(scheme, size, heard, start=0)"),
    "nearest": ("nearest(scheme, size, heard)",),
    "few": ("few(scheme, size, heard, most=2)",),
    "pieces": ("kept(scheme, steps, heard)", "settled(scheme, steps, heard)"),
    "apart": ("apart(scheme, size)",),
    "quiet": ("quiet(scheme)", "ranks(scheme)"),
    "rest": ("fewest(scheme, steps)", "sparse(scheme, steps)", "rest(scheme, ones)"),
    "mending": ("blocks(scheme, size, places, pause)", "sure(scheme, size, wrong, gaps)"),
    "reading": ("read_number(text)", "read_word(text)", "read_scheme(text)", "read_heard(text)", "read_places(text)"),
    "showing": ("shown_word(word)", "shown_scheme(scheme)", "shown_heard(heard)", "shown_places(places)"),
}
CLASSES = {
    "signs": {"Clear": "(bit)", "Gap": "()", "Soft": "(zero, one)"},
    "desk": {"Desk": "()"},
}
METHODS = {"Clear": ("told()", "cost(bit)"), "Gap": ("told()", "cost(bit)"), "Soft": ("told()", "cost(bit)"),
           "Desk": ("tell(row)",)}


def module(name):
    return importlib.import_module("trellisway." + name)


class Interface(unittest.TestCase):
    def test_functions(self):
        for name, functions in INTERFACE.items():
            for function in functions:
                found = getattr(module(name), function.partition("(")[0])
                self.assertEqual(found.__name__ + str(inspect.signature(found)), function)

    def test_classes(self):
        for name, classes in CLASSES.items():
            for title, asked in classes.items():
                found = getattr(module(name), title)
                self.assertEqual(str(inspect.signature(found)), asked)
                for method in METHODS[title]:
                    of_class = getattr(found, method.partition("(")[0])
                    expected = "(self, " + method.partition("(")[2] if method[-2] != "(" else "(self)"
                    self.assertEqual(str(inspect.signature(of_class)), expected)

    def test_the_schemes_of_these_tests_are_schemes(self):
        for scheme in reference.schemes() + list(reference.random_schemes(101, 5)):
            self.assertTrue(is_scheme(scheme), scheme)


def cases(end, seed):
    for scheme in reference.schemes():
        for size in reference.sizes_of(scheme, end):
            for heard in reference.hearings(len(places_of(scheme, size)), seed):
                yield scheme, size, heard


class ThePromise(unittest.TestCase):
    def test_no_word_costs_less_and_the_first_is_told(self):
        for scheme, size, heard in cases(4, 102):
            told = nearest(scheme, size, heard)
            self.assertEqual(cost(scheme, told[1], heard), told[0])
            for word in reference.all_words(size):
                other = (cost(scheme, word, heard), word)
                self.assertTrue(told <= other, (scheme, heard, told, other))

    def test_each_told_cost_is_one_steps_cost_and_the_next_told_cost(self):
        for scheme, size, heard in cases(3, 103):
            pieces = [[] for _ in range(steps_of(scheme, size))]
            for number, told in zip(places_of(scheme, size), heard):
                pieces[number].append(sign_of(told))
            for start in range(rooms(scheme)) if scheme[3] == "ring" else (0,):
                table = ahead(scheme, size, heard, start)
                self.assertEqual(len(table), len(pieces) + 1)
                for number, signs in enumerate(pieces):
                    for room in range(rooms(scheme)):
                        found = []
                        for bit in (0, 1) if number < size else (0,):
                            led, made = step(scheme, room, bit)
                            chosen = sent_at(scheme, number, made)
                            if table[number + 1][led] is not None:
                                paid = sum(sign.cost(one) for sign, one in zip(signs, chosen))
                                found.append(paid + table[number + 1][led])
                        self.assertEqual(table[number][room], min(found, default=None))

    def test_the_words_behind_are_just_the_next_ones(self):
        for scheme, size, heard in cases(4, 104):
            expected = sorted((cost(scheme, word, heard), word) for word in reference.all_words(size))
            self.assertEqual(few(scheme, size, heard, 2**size + 1), expected)
            self.assertEqual(few(scheme, size, heard), expected[:2])

    def test_what_is_settled_stays(self):
        for scheme, size, heard in cases(5, 105):
            if scheme[3] != "ring":
                word = nearest(scheme, size, heard)[1]
                for steps in range(size + 1):
                    begun = heard[: sum(number < steps for number in places_of(scheme, size))]
                    told = settled(scheme, steps, begun)
                    self.assertEqual(word[: len(told)], told, (scheme, steps, heard))

    def test_two_words_differ_in_just_so_many_signs(self):
        for scheme in reference.schemes():
            for size in reference.sizes_of(scheme, 5):
                signs = [sent(scheme, word) for word in reference.all_words(size)]
                apart_by_pairs = [
                    sum(sign != other for sign, other in zip(signs[first], signs[second]))
                    for first in range(len(signs))
                    for second in range(first)
                ]
                told = apart(scheme, size)
                self.assertEqual(told and told[0], min(apart_by_pairs, default=None))

    def test_what_is_surely_mended_is_told_again(self):
        chance = random.Random(106)
        for scheme in reference.schemes():
            for size in reference.sizes_of(scheme, 4):
                places = range(len(places_of(scheme, size)))
                for number, wrong_ones in ((0, 0), (1, 0), (1, 1), (2, 0), (2, 1), (3, 2)):
                    chosen = chance.sample(places, min(number, len(places)))
                    wrong = sorted(chosen[:wrong_ones])
                    gaps = sorted(chosen[wrong_ones:])
                    if sure(scheme, size, wrong, gaps) is not None:
                        self.check_mended(scheme, size, wrong, gaps)

    def check_mended(self, scheme, size, wrong, gaps):
        for word in reference.all_words(size):
            heard = [("clear", sign) for sign in sent(scheme, word)]
            for place in wrong:
                heard[place] = ("clear", 1 - heard[place][1])
            for place in gaps:
                heard[place] = ("gap",)
            self.assertEqual(nearest(scheme, size, heard), (len(wrong), word))
            for other in reference.all_words(size):
                if other != word:
                    self.assertGreater(cost(scheme, other, heard), len(wrong))


def heard_for(scheme, size):
    return list(reference.hearings(len(places_of(scheme, size)), 107))[-1]


def questions(scheme):
    """(function, what is handed in) for each function of the interface that tells or takes lists or dicts."""
    word = [1, 0, 1, 1, 0]
    heard = heard_for(scheme, 5)
    places = list(range(len(heard)))
    yield from ((bits_of, [scheme, word]), (rooms_of, [scheme, word]), (sent, [scheme, word]))
    yield from ((bits_of, [scheme, [0] * 60]), (places_of, [scheme, 5]), (cost, [scheme, word, heard]))
    yield from ((ahead, [scheme, 5, heard]), (ahead, [scheme, 5, heard, 0]), (nearest, [scheme, 5, heard]))
    yield from ((few, [scheme, 5, heard]), (few, [scheme, 5, heard, 7]), (few, [scheme, 5, heard, 0]))
    yield from ((apart, [scheme, 5]), (quiet, [scheme]), (ranks, [scheme]), (rest, [scheme, 3]))
    yield from ((fewest, [scheme, 0]), (fewest, [scheme, 4]), (sparse, [scheme, 0]), (sparse, [scheme, 4]))
    for pause in (None, 0, 2):
        yield from ((blocks, [scheme, 5, [], pause]), (blocks, [scheme, 5, places, pause]))
    yield from ((sure, [scheme, 5, [], []]), (sure, [scheme, 5, places[:1], []]), (sure, [scheme, 5, [], places[:2]]))
    yield from ((sure, [scheme, 5, places[::3], places[1::3]]),)
    if scheme[3] != "ring":
        begun = heard[: len(places_of(reference.opened(scheme), 4))]
        yield from ((kept, [scheme, 4, begun]), (settled, [scheme, 4, begun]), (kept, [scheme, 0, []]))
        yield from ((settled, [scheme, 0, []]), (nearest, [scheme, 0, heard_for(scheme, 0)]))
    yield from ((shown_scheme, [scheme]), (shown_word, [word]), (shown_heard, [heard]), (shown_places, [places]))
    yield from ((read_scheme, [shown_scheme(scheme)]), (read_word, ["0110"]), (read_word, ["-"]), (read_number, ["-7"]))
    yield from ((read_heard, [shown_heard(heard)]), (read_heard, [""]), (read_places, ["0,4,9"]), (read_places, ["-"]))


def lists_within(found):
    """Each list and dict, at whatever depth."""
    if isinstance(found, (list, dict)):
        yield found
    if isinstance(found, (list, tuple, dict)):
        for part in found.values() if isinstance(found, dict) else found:
            yield from lists_within(part)


def spoil(found):
    for one in list(lists_within(found)):
        if isinstance(one, dict):
            one.clear()
            one["spoiled"] = ["spoiled"]
        else:
            one[:] = ["spoiled"] + one[1:] + ["spoiled"]


class TheAskersOwn(unittest.TestCase):
    def test_every_function_is_asked(self):
        asked = {function.__name__ for scheme in reference.schemes() for function, _ in questions(scheme)}
        plain = {"sign_of", "is_scheme", "rooms", "step", "sent_at", "steps_of"}
        named = {function.partition("(")[0] for functions in INTERFACE.values() for function in functions}
        self.assertEqual(named, asked | plain)

    def test_what_is_handed_in_stays(self):
        for scheme in reference.schemes():
            for function, asked in questions(scheme):
                before = copy.deepcopy(asked)
                function(*asked)
                self.assertEqual(asked, before, function.__name__)

    def test_a_change_of_what_is_told_changes_nothing_told_later(self):
        for scheme in reference.schemes():
            for function, asked in questions(scheme):
                told = function(*asked)
                before = copy.deepcopy(told)
                spoil(told)
                self.assertEqual(function(*asked), before, function.__name__)

    def test_a_change_of_what_was_handed_in_changes_nothing_told(self):
        for scheme in reference.schemes():
            for function, asked in questions(scheme):
                handed = copy.deepcopy(asked)
                told = function(*handed)
                before = copy.deepcopy(told)
                spoil(handed)
                self.assertEqual(told, before, function.__name__)

    def test_no_list_is_told_twice_or_is_one_handed_in(self):
        for scheme in reference.schemes():
            for function, asked in questions(scheme):
                told = [function(*asked), function(*asked)]
                seen = [id(one) for one in lists_within(told)] + [id(one) for one in lists_within(asked)]
                self.assertEqual(len(seen), len(set(seen)), function.__name__)

    def test_a_desk_keeps_its_answers(self):
        rows = ("send 10110", "apart 5", "quiet", "rest 3", "sure 5 - -")
        for scheme in reference.schemes():
            desk = Desk()
            desk.tell("scheme " + shown_scheme(scheme))
            before = [desk.tell(row) for row in rows]
            for function, asked in questions(scheme):
                spoil(function(*asked))
            self.assertEqual([desk.tell(row) for row in rows], before)


if __name__ == "__main__":
    unittest.main()
