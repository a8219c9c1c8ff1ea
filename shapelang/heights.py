"""Whether instructions find what they take: how many values are on the stack, and entries in the frame.

Heights are a pair of both numbers.
"""

from shapelang.codeforms import arity_of

# How many values the instructions take, and how many they push; those of build depend on the maker.
TAKEN = {
    "push": 0, "load": 0, "store": 1, "cut": 0, "op": 2, "closure": 0, "call": 2, "global": 0, "back": 1,
    "tail": 2, "leave": 0, "test": 1, "jump": 0, "stop": 1,
}
PUSHED = {"push": 1, "load": 1, "build": 1, "op": 1, "closure": 1, "call": 1, "global": 1}
# Behind which no instruction of the block follows, and which find just what they take.
LAST = ("back", "tail", "leave", "stop")
EXACT = ("back", "tail", "leave")


def taken_by(makers, row):
    """Return how many values an instruction takes."""
    return arity_of(makers, row[1]) if row[0] == "build" else TAKEN[row[0]]


def entries_needed(row):
    """Return how many entries an instruction needs in the frame."""
    if row[0] == "load":
        return row[1] + 1
    if row[0] == "cut":
        return row[1]
    if row[0] == "closure":
        return row[2][-1] + 1 if row[2] else 0
    return row[3] if row[0] == "test" else 0


def height_fault(makers, row, heights, is_last):
    """Return what is wrong with an instruction that finds these heights, None if nothing is."""
    stack, frame = heights
    taken = taken_by(makers, row)
    if stack < taken or (row[0] in EXACT and stack != taken):
        return "stack"
    if frame < entries_needed(row):
        return "frame"
    return "end" if is_last and row[0] not in LAST else None


def following(makers, row, at, heights):
    """Return the list of pairs (instruction, heights) to which the instruction with this number leads."""
    stack, frame = heights
    stack = stack - taken_by(makers, row) + (PUSHED[row[0]] if row[0] in PUSHED else 0)
    if row[0] in LAST:
        return []
    if row[0] == "jump":
        return [(row[1], (stack, frame))]
    if row[0] == "test":
        return [(at + 1, (stack, frame + arity_of(makers, row[1]))), (row[2], (stack, row[3]))]
    if row[0] == "store":
        frame = frame + 1
    elif row[0] == "cut":
        frame = row[1]
    return [(at + 1, (stack, frame))]


def fault_of_heights(makers, block):
    """Return (instruction, reason) for the first fault of the heights in a block, None if there is none."""
    length, rows = block
    found = {0: (0, length)}
    unlike = {}
    for at, row in enumerate(rows):
        # What no way leads to is not looked at.
        if at not in found:
            continue
        if at in unlike:
            return (at, "unlike")
        fault = height_fault(makers, row, found[at], at == len(rows) - 1)
        if fault is not None:
            return (at, fault)
        ways = following(makers, row, at, found[at])
        for target, heights in ways:
            if target in found and found[target] != heights:
                unlike[target] = True
            found[target] = heights
    return None
