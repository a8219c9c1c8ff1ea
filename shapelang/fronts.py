"""The first items of shapes."""


def same_front(one, other):
    """Whether both are tuples with the same Name and the same number of parts."""
    if not isinstance(one, tuple) or not isinstance(other, tuple):
        return False
    return one[0] == other[0] and len(one) == len(other)
