"""The data that are known, with their makers."""

# Always known beside the datas.
BOOL = ("Bool", 0, (("False",), ("True",)))
# Names that no data and no maker may have.
KNOWN_NAMES = ("Int", "Bool", "False", "True")


def counts_of(datas):
    """Return the dict of the numbers of parts of the Names that shapes may have."""
    return dict([("Int", 0), *[(name, many) for name, many, _ in (BOOL, *datas)]])


def data_table(datas):
    """Return the dict of the makers of each data by its Name."""
    return {name: makers for name, _, makers in (BOOL, *datas)}


def maker_table(datas):
    """Return the dict of (Name of the data, number of its parameters, parts) by the Names of makers."""
    return {maker[0]: (name, many, maker[1:]) for name, many, makers in (BOOL, *datas) for maker in makers}


def has_known_names(shape, counts):
    """Whether each Name in a shape is one of these, with as many parts."""
    waiting = [shape]
    while waiting:
        part = waiting.pop()
        if isinstance(part, tuple):
            if part[0] != "->" and (part[0] not in counts or counts[part[0]] != len(part) - 1):
                return False
            waiting.extend(part[1:])
    return True
