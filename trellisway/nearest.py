"""The nearest word of what is heard."""

from trellisway.costs import ahead_by_start, cost_by, moves


def nearest_from(start, steps, table, size):
    word = []
    room = start
    for number in range(size):
        choices = steps[number][room]
        # Where both bits cost as much, 0 makes the first word.
        bit = 0 if cost_by(choices[0], table[number + 1]) == table[number][room] else 1
        word.append(bit)
        room = choices[bit][0]
    return (table[0][start], word)


def nearest(scheme, size, heard):
    steps = moves(scheme, size, heard)
    tables = ahead_by_start(scheme, steps)
    return min([nearest_from(start, steps, tables[start], size) for start in tables])
