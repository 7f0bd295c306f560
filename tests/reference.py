"""What the document asks, worked out another way than the program does: the tests hold the program against it."""

import itertools
import random

from trellisway.errors import NoPlace, NoScheme, NoSigns, NoText, NoWord, WayError

ENDINGS = ("open", "ended", "ring")
REACHES = (0, 1, 2, 3, 4)
SIXTY = int("9" * 60)
NO_TEXTS = (0, 1, 7, -3, True, False, None, 1.5, [], ["0"], (), ("0",), {}, {"0": 1}, b"", b"0", object(), str)
SIX_ROWS = ((1, 1, 1, 1), (0, 0, 0, 1), (0, 1, 1, 0), (1, 0, 0, 0), (0, 0, 0, 0), (0, 1, 0, 1))


def shapes_of(reach):
    """Taps and rows: one and several of each, rows of unlike weight, rows that send nothing."""
    end = 2 << reach
    return (
        ((end - 1,), ((1,),)),
        ((end - 1, 1 | end // 2), ((1, 1), (1, 0))),
        ((1, end // 2, end - 1), ((1, 0, 1), (0, 0, 0), (0, 1, 0))),
        ((end - 1, end // 3, 1, 0), SIX_ROWS),
        ((end - 1, 1), ((0, 0),)),
    )


def schemes(reaches=REACHES, endings=ENDINGS):
    return [(reach, *shape, ending) for reach in reaches for shape in shapes_of(reach) for ending in endings]


def least_size(scheme):
    return scheme[0] if scheme[3] == "ring" else 0


def sizes_of(scheme, end):
    return range(least_size(scheme), max(end, least_size(scheme) + 2))


def all_words(size):
    return [list(bits) for bits in itertools.product((0, 1), repeat=size)]


def long_words(scheme, seed):
    chance = random.Random(seed)
    sizes = (least_size(scheme), 9, 17, 31, 59, 60)
    return [[0] * 60, [1] * 60] + [[chance.randrange(2) for _ in range(size)] for size in sizes]


def done(scheme, word):
    return word + [0] * (scheme[0] if scheme[3] == "ended" else 0)


def ahead_of_word(scheme, word):
    reach = scheme[0]
    return word[len(word) - reach :] if scheme[3] == "ring" else [0] * reach


def number_of(bits):
    return int("0" + "".join(map(str, bits)), 2)


def way(scheme, word):
    line = ahead_of_word(scheme, word) + done(scheme, word)
    return [number_of(line[place : place + scheme[0]]) for place in range(len(done(scheme, word)) + 1)]


def sent_with_steps(scheme, word):
    """(step's number, sign) for each sent sign: a tap's sign sums the bits as far back as the tap's powers reach."""
    reach, taps, rows, _ = scheme
    line = ahead_of_word(scheme, word) + done(scheme, word)
    found = []
    for number in range(len(done(scheme, word))):
        for tap, chosen in zip(taps, rows[number % len(rows)]):
            backs = [back for back in range(reach + 1) if (tap >> back) % 2 == 1]
            if chosen:
                found.append((number, sum(line[number + reach - back] for back in backs) % 2))
    return found


def sent_count(scheme, size):
    return len(sent_with_steps(scheme, [0] * size))


def price(told, bit):
    if told[0] == "clear":
        return int(told[1] != bit)
    return 0 if told[0] == "gap" else told[1 + bit]


def price_of_word(scheme, word, heard):
    signs = [sign for _, sign in sent_with_steps(scheme, word)]
    assert len(signs) == len(heard)
    return sum(price(told, sign) for told, sign in zip(heard, signs))


def ranked(scheme, size, heard):
    return sorted((price_of_word(scheme, word, heard), word) for word in all_words(size))


def hearings(count, seed):
    """Lists of so many heard signs: clear, gaps, soft ones below 0 and of sixty figures, mixed, many equal costs."""
    chance = random.Random(seed)

    def soft(end):
        return ("soft", chance.randint(-end, end), chance.randint(-end, end))

    def clear():
        return ("clear", chance.randrange(2))

    yield [("clear", 0)] * count
    yield [("gap",)] * count
    yield [clear() for _ in range(count)]
    yield [soft(2) for _ in range(count)]
    yield [soft(SIXTY) for _ in range(count)]
    yield [("soft", -SIXTY, SIXTY) if chance.randrange(2) else ("soft", SIXTY, -SIXTY) for _ in range(count)]
    yield [chance.choice((clear(), ("gap",), soft(1), soft(SIXTY))) for _ in range(count)]


def moves_by_hand(scheme, number, pieces, room, bit):
    """(next room, cost) of one step, of what is heard of it."""
    reach, taps, rows, _ = scheme
    window = 2 * room + bit
    signs = [bin(window & tap).count("1") % 2 for tap in taps]
    chosen = [sign for sign, there in zip(signs, rows[number % len(rows)]) if there]
    return window % (1 << reach), sum(price(told, sign) for told, sign in zip(pieces[number], chosen))


def pieces_of(scheme, size, heard):
    steps = [number for number, _ in sent_with_steps(scheme, [0] * size)]
    count = len(done(scheme, [0] * size))
    return [[told for told, number in zip(heard, steps) if number == one] for one in range(count)]


def cheapest_ends(scheme, size, pieces, ends, most):
    """From each room the cheapest ways through all steps, as many as asked for, made from the end on."""
    rooms = range(1 << scheme[0])
    for number in reversed(range(len(pieces))):
        ends_before = []
        for room in rooms:
            longer = []
            for bit in (0, 1) if number < size else (0,):
                led, paid = moves_by_hand(scheme, number, pieces, room, bit)
                longer += [(paid + cost, [bit] + bits) for cost, bits in ends[led]]
            ends_before.append(sorted(longer)[:most])
        ends = ends_before
    return ends


def next_words(scheme, size, heard, most):
    """The first words by their cost, from the end on: for each room the cheapest ends of ways, as many as asked for."""
    pieces = pieces_of(scheme, size, heard)
    rooms = range(1 << scheme[0])
    found = []
    for start in rooms if scheme[3] == "ring" else [0]:
        ends = [[(0, [])] if scheme[3] == "open" or room == start else [] for room in rooms]
        found += [(cost, bits[:size]) for cost, bits in cheapest_ends(scheme, size, pieces, ends, most)[start]]
    return sorted(found)[:most]


def opened(scheme):
    """A beginning is sent as a word of an open scheme."""
    return scheme[:3] + ("open",)


def kept_by_all_ways(scheme, steps, heard):
    found = [None] * (1 << scheme[0])
    for cost, word in reversed(ranked(opened(scheme), steps, heard)):
        found[way(opened(scheme), word)[-1]] = (cost, word)
    return found


def kept_from_the_end(scheme, steps, heard):
    pieces = pieces_of(opened(scheme), steps, heard)
    rooms = range(1 << scheme[0])
    found = []
    for end in rooms:
        ends = [[(0, [])] if room == end else [] for room in rooms]
        found += cheapest_ends(scheme, steps, pieces, ends, 1)[0] or [None]
    return found


def common_beginning(words):
    """The longest beginning that all of these words of one length have."""
    size = len(words[0])
    return [words[0][:end] for end in range(size + 1) if all(word[:end] == words[0][:end] for word in words)][-1]


def distance_by_pairs(scheme, size):
    signs = {tuple(word): [sign for _, sign in sent_with_steps(scheme, word)] for word in all_words(size)}
    pairs = itertools.combinations(signs.values(), 2)
    least = min(sum(a != b for a, b in zip(one, other)) for one, other in pairs)
    return least, next(list(word) for word in signs if any(word) and sum(signs[word]) == least)


def random_schemes(seed, rounds):
    """For each reach and each number of rows so many schemes, of one to four taps, some of them 0."""
    chance = random.Random(seed)
    for reach in REACHES:
        for count in range(1, 7):
            for _ in range(rounds):
                taps = tuple(chance.randrange(2 << reach) for _ in range(chance.randint(1, 4)))
                bits = chance.choice(((0, 1), (0, 1, 1, 1), (1,)))
                rows = tuple(tuple(chance.choice(bits) for _ in taps) for _ in range(count))
                yield reach, taps, rows, chance.choice(ENDINGS)


def nodes_of(scheme):
    return [(phase, room) for phase in range(len(scheme[2])) for room in range(1, 1 << scheme[0])]


def bits_of_room(scheme, room):
    return [room >> place & 1 for place in reversed(range(scheme[0]))]


def walk(scheme, node, bits):
    """(ones, node) for each step of the way with these bits: how many 1 it sends and where it leads."""
    reach, taps, rows, _ = scheme
    line = bits_of_room(scheme, node[1]) + list(bits)
    found = []
    for number in range(len(bits)):
        phase = (node[0] + number) % len(rows)
        ones = 0
        for tap, chosen in zip(taps, rows[phase]):
            backs = [back for back in range(reach + 1) if tap >> back & 1]
            ones += chosen * (sum(line[number + reach - back] for back in backs) % 2)
        found.append((ones, ((phase + 1) % len(rows), number_of(line[number + 1 : number + 1 + reach]))))
    return found


def paces(scheme):
    """For each node its steps to nodes: (ones, node)."""
    found = {}
    for node in nodes_of(scheme):
        steps = [walk(scheme, node, [bit])[0] for bit in (0, 1)]
        found[node] = [(ones, led) for ones, led in steps if led[1] != 0]
    return found


def fewest_by_all_ways(scheme, node, steps):
    found = []
    for bits in itertools.product((0, 1), repeat=steps):
        made = walk(scheme, node, bits)
        if all(led[1] != 0 for _, led in made):
            found.append(sum(ones for ones, _ in made))
    return min(found)


def depths(scheme):
    """For each node the greatest number of quiet steps that lead from it, None where there is no end of them."""
    leads = {node: [led for ones, led in steps if ones == 0] for node, steps in paces(scheme).items()}
    found = {}
    alive = set(leads)
    # More quiet steps than there are nodes come to one node twice.
    for number in range(len(leads) + 1):
        found.update({node: number for node in alive})
        alive = {node for node in alive if any(led in alive for led in leads[node])}
    return {node: None if node in alive else found[node] for node in leads}


def rest_for(scheme, ones):
    """The least number of steps that send so many 1 from each node, made longer step by step; ones from 1 on."""
    if None in depths(scheme).values():
        return None
    leads = paces(scheme)
    least = {node: 0 for node in leads}
    steps = 0
    while least and min(least.values()) < ones:
        least = {node: min(sent + least[led] for sent, led in leads[node]) for node in leads}
        steps += 1
    return steps


def parted(scheme, size, places, pause):
    """Blocks: cut ahead of each place that has steps enough between its own step and that of the place ahead."""
    numbers = [number for number, _ in sent_with_steps(scheme, [0] * size)]
    cuts = []
    for index, (place, later) in enumerate(zip(places, places[1:]), 1):
        between = [number for number in range(300) if numbers[place] < number < numbers[later]]
        if pause is not None and numbers[place] != numbers[later] and len(between) >= pause:
            cuts.append(index)
    edges = [0] + cuts + [len(places)]
    return [places[first:end] for first, end in zip(edges, edges[1:]) if places]


def distance(scheme, size):
    """None for the length 0."""
    if size <= 5:
        return distance_by_pairs(scheme, size)[0] if size else None
    return next_words(scheme, size, [("clear", 0)] * sent_count(scheme, size), 2)[1][0]


def mended(scheme, size, wrong, gaps, apart):
    """(e, pause, blocks) by a search over e, some further than can be of use; apart the distance, None for none."""
    if apart == 0:
        return None
    for bound in range(len(wrong) + 3):
        pause = rest_for(scheme, 2 * bound + 1) if scheme[3] == "ended" else None
        found = parted(scheme, size, sorted(wrong + gaps), pause)
        weights = [sum(2 if place in wrong else 1 for place in block) for block in found]
        few = all(sum(place in wrong for place in block) <= bound for block in found)
        if few and (apart is None or all(weight < apart for weight in weights)):
            return bound, pause, found
    return None


def heard_with(scheme, word, wrong, gaps):
    """What is heard of a word: clearly, with the other bit at the wrong places, and with gaps."""
    signs = [sign for _, sign in sent_with_steps(scheme, word)]
    heard = [("clear", 1 - sign if place in wrong else sign) for place, sign in enumerate(signs)]
    return [("gap",) if place in gaps else told for place, told in enumerate(heard)]


def refused(case, refusal, ask, *asked):
    with case.assertRaises(refusal) as caught:
        ask(*asked)
    case.assertIsInstance(caught.exception, WayError)
    case.assertIsInstance(caught.exception, ValueError)
    for other in (NoText, NoScheme, NoWord, NoSigns, NoPlace):
        case.assertEqual(isinstance(caught.exception, other), other is refusal)
