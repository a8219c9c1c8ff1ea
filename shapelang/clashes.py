"""Clashes and repairs: least sets of groups without which there is, or is no, solution."""

from shapelang.looks import Looks
from shapelang.masks import mask_of, members_of, without
from shapelang.names import is_integer


def is_choice(groups, value):
    """Whether the value is an ascending tuple of numbers of groups."""
    if not isinstance(value, tuple) or not all([is_integer(item) for item in value]):
        return False
    if any([one >= other for one, other in zip(value, value[1:])]):
        return False
    return all([0 <= item < len(groups) for item in value])


def is_clash(groups, value):
    """Return whether the value is a clash of the groups."""
    if not is_choice(groups, value):
        return False
    looks = Looks(groups)
    mask = mask_of(value)
    return not looks.fit(mask) and all([looks.fit(without(mask, 1 << item)) for item in value])


def is_repair(groups, value):
    """Return whether the value is a repair of the groups."""
    if not is_choice(groups, value):
        return False
    looks = Looks(groups)
    rest = without(looks.every, mask_of(value))
    return looks.fit(rest) and not any([looks.fit(rest | 1 << item) for item in value])


def find_clash(groups):
    """Return the clash that is left from the last group to the first one, None if there is none."""
    return Looks(groups).first_clash()


def find_repair(groups):
    """Return the repair that is left if groups are kept from the first one to the last one."""
    looks = Looks(groups)
    return members_of(looks.left_over(0))


def ascending(masks):
    """Return the ascending tuple of the sets of these masks."""
    return tuple(sorted([members_of(mask) for mask in masks]))


def all_clashes(groups):
    """Return the ascending tuple of all clashes."""
    looks = Looks(groups)
    looks.find_all()
    return ascending(looks.clashes)


def all_repairs(groups):
    """Return the ascending tuple of all repairs."""
    looks = Looks(groups)
    looks.find_all()
    return ascending(looks.repairs)


def fewest_repair(groups):
    """Return the first repair, in ascending order, of those with the fewest groups."""
    return min(all_repairs(groups), key=len)
