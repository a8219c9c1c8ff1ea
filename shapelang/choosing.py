"""A choice of numbers that has a member of each of some sets, and not all members of any of others.

All sets are masks. A way of choosing is a tuple (hits, misses, free, chosen): hits are the sets
of which a member must still be chosen, misses those of which one must still be left out, both as
pairs (number of members, mask) with free members alone; free is the mask of the numbers that are
neither chosen nor left out yet, chosen that of the chosen ones.
"""

from shapelang.masks import count_members, members_of, without


def counted(masks):
    """Return the list of pairs (number of members, mask)."""
    return [(count_members(mask), mask) for mask in masks]


def untouched(pairs, bit):
    """Return the pairs of those sets that do not have this bit."""
    return [(many, mask) for many, mask in pairs if not mask & bit]


def shortened(pairs, bit):
    """Return the pairs of all sets, without this bit."""
    return [(many - 1, without(mask, bit)) if mask & bit else (many, mask) for many, mask in pairs]


def risk(way):
    """Return a number that is the greater, the more likely a blind choice of the free ones fails."""
    hits, misses, free, _ = way
    most = free.bit_length()
    return sum([1 << most - many for many, _ in [*hits, *misses]])


def splitting_bit(hits, misses):
    """Return the bit of one of the shortest sets that most sets of the other kind have.

    With a blind choice as good as lost, some set is short, and this bit settles many others.
    """
    hit, miss = min(hits), min(misses)
    short, others = (hit[1], misses) if hit[0] <= miss[0] else (miss[1], hits)
    bits = [1 << member for member in members_of(short)]
    return min(bits, key=lambda bit: len(untouched(others, bit)))


def next_ways(way):
    """Return the ways of leaving out and of choosing one free number, the better one last."""
    hits, misses, free, chosen = way
    bit = splitting_bit(hits, misses)
    rest = without(free, bit)
    inside = (untouched(hits, bit), shortened(misses, bit), rest, chosen | bit)
    outside = (shortened(hits, bit), untouched(misses, bit), rest, chosen)
    return (outside, inside) if risk(inside) <= risk(outside) else (inside, outside)


def is_lost(way):
    """Whether a set has no free member left."""
    hits, misses, _, _ = way
    return any([many == 0 for many, _ in [*hits, *misses]])


def choice(hits, misses, free):
    """Return the mask of a choice of free numbers, None if there is none."""
    waiting = [(counted(hits), counted(misses), free, 0)]
    while waiting:
        way = waiting.pop()
        if is_lost(way):
            continue
        open_hits, open_misses, rest, chosen = way
        if not open_misses:
            return chosen | rest
        if not open_hits:
            return chosen
        waiting.extend(next_ways(way))
    return None
