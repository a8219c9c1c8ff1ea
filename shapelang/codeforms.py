"""Which values are codes, blocks and instructions by their forms."""

from shapelang.formed import is_sign, is_worth
from shapelang.names import is_integer

# The most blocks of a code, instructions of a block, and entries of a frame at first.
MOST_BLOCKS = 600
MOST_ROWS = 400
MOST_LENGTH = 60
# The greatest index and place of a stop.
MOST_NAMED = 999
# How many items the instructions have.
ITEMS = {
    "push": 2, "load": 2, "store": 1, "cut": 2, "build": 2, "op": 2, "closure": 3, "call": 1, "global": 2, "back": 1,
    "tail": 1, "leave": 2, "test": 4, "jump": 2, "stop": 3,
}


def arity_of(makers, name):
    """Return how many parts a maker has."""
    return len(makers[name][2])


def is_index(value, many):
    """Whether the value is an integer from 0 to below this one."""
    return is_integer(value) and 0 <= value < many


def is_count(value):
    """Whether the value is an integer from 0 on."""
    return is_integer(value) and value >= 0


def is_code_form(value):
    """Whether the value is a tuple of indexes of blocks, and of not too many blocks, whatever they are."""
    if not isinstance(value, tuple) or len(value) != 3:
        return False
    main, starts, blocks = value
    if not isinstance(blocks, tuple) or not 1 <= len(blocks) <= MOST_BLOCKS or not isinstance(starts, tuple):
        return False
    return all([is_index(index, len(blocks)) for index in (main, *starts)])


def is_block_form(value):
    """Whether the value is a pair of a length and a tuple of not too many instructions, whatever they are."""
    if not isinstance(value, tuple) or len(value) != 2 or not is_index(value[0], MOST_LENGTH + 1):
        return False
    return isinstance(value[1], tuple) and 1 <= len(value[1]) <= MOST_ROWS


def is_closure(code, index, entries):
    """Whether these are a block of the code and entries that it keeps."""
    if not is_index(index, len(code[2])) or not isinstance(entries, tuple):
        return False
    if not all([is_count(entry) for entry in entries]):
        return False
    if any([one >= other for one, other in zip(entries, entries[1:])]):
        return False
    return code[2][index][0] == len(entries) + 1


def is_maker(makers, value):
    """Whether the value is the Name of a maker that is known."""
    return isinstance(value, str) and value in makers


def is_target(value, at, many):
    """Whether the value is the number of a later instruction of so many."""
    return is_integer(value) and at < value < many


def is_instruction(makers, code, many, at, row):
    """Whether a value is an instruction of a code, the one with this number of so many."""
    if not isinstance(row, tuple) or len(row) == 0 or not isinstance(row[0], str) or row[0] not in ITEMS:
        return False
    kind = row[0]
    if len(row) != ITEMS[kind]:
        return False
    if kind == "push":
        return is_worth(row[1])
    if kind in ("load", "cut"):
        return is_count(row[1])
    if kind == "build":
        return is_maker(makers, row[1])
    if kind == "op":
        return is_sign(row[1])
    if kind == "closure":
        return is_closure(code, row[1], row[2])
    if kind in ("global", "leave"):
        return is_index(row[1], len(code[1]))
    if kind == "test":
        return is_maker(makers, row[1]) and is_target(row[2], at, many) and is_count(row[3])
    if kind == "jump":
        return is_target(row[1], at, many)
    return kind != "stop" or all([is_index(item, MOST_NAMED + 1) for item in row[1:]])
