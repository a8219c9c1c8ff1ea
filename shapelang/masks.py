"""Sets of small numbers as integers, called masks: the bit of each member is set."""


def mask_of(members):
    """Return the mask of a list or tuple of numbers."""
    mask = 0
    for member in members:
        mask = mask | 1 << member
    return mask


def members_of(mask):
    """Return the ascending tuple of the members."""
    return tuple([member for member in range(mask.bit_length()) if mask >> member & 1])


def count_members(mask):
    """Return the number of the members."""
    return len(members_of(mask))


def without(mask, other):
    """Return the mask of the members that the other one does not have."""
    return mask & ~other


def lies_within(mask, other):
    """Whether the other one has all members of the mask."""
    return mask & ~other == 0
