"""Blocks of places, and which wrong places and gaps are surely mended."""

from trellisway.apart import apart
from trellisway.rest import rest
from trellisway.sending import places_of


def is_parted(earlier, later, pause):
    # Places of one step stay together, whatever the pause.
    return pause is not None and later - earlier > max(pause, 0)


def blocks(scheme, size, places, pause):
    steps = places_of(scheme, size)
    found = []
    for place in places:
        if len(found) > 0 and not is_parted(steps[found[-1][-1]], steps[place], pause):
            found[-1].append(place)
        else:
            found.append([place])
    return found


def pause_for(scheme, most):
    # Where what is unlike in two words goes from one block to the next and never comes to room 0, the steps between
    # send more ones than the wrong places of both blocks can hide.
    return rest(scheme, 2 * most + 1) if scheme[3] == "ended" else None


def weight_bound(scheme, size, places):
    found = apart(scheme, size)
    # The length 0 has no distance, so its bound is one that no block of these places comes to.
    return 2 * len(places) + 1 if found is None else found[0]


def count_wrong(block, wrong):
    return len([place for place in block if place in wrong])


def weight(block, wrong):
    return len(block) + count_wrong(block, wrong)


def sure(scheme, size, wrong, gaps):
    places = sorted(wrong + gaps)
    bound = weight_bound(scheme, size, places)
    if bound == 0:
        return None
    for most in range(len(wrong) + 1):
        pause = pause_for(scheme, most)
        found = blocks(scheme, size, places, pause)
        # With more wrong places allowed the pause is no shorter, so no block becomes lighter.
        if any([weight(block, wrong) >= bound for block in found]):
            break
        if all([count_wrong(block, wrong) <= most for block in found]):
            return (most, pause, found)
    return None
