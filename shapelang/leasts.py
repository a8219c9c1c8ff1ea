"""Least sizes and least forms of the shapes of a family."""

from shapelang.bounds import FORM

ANY = ("any",)


def size_of_maker(sizes, parts):
    """Return the least size of a form of a maker with these parts, None if a part has no form that is known."""
    size = 1
    for part in parts:
        if part not in sizes:
            return None
        size = size + sizes[part]
    return size


def least_makers(family):
    """Return the dicts of the least sizes of the shapes that have forms, and of the makers of the least forms."""
    makers = family.makers
    sizes = dict([(number, 0) for number in family.met if number not in makers])
    chosen = {}
    found = True
    # What is met later is often a part of what is met earlier: so fewer rounds are needed.
    order = list(makers)[::-1]
    while found:
        found = False
        for number in order:
            for index, (_, parts) in enumerate(makers[number]):
                size = size_of_maker(sizes, parts)
                if size is not None and (number not in sizes or (size, index) < (sizes[number], chosen[number])):
                    sizes[number] = size
                    chosen[number] = index
                    found = True
    return sizes, chosen


def least_forms(family, sizes, chosen):
    """Return the dict of the first forms of the shapes, by their numbers, as far as they are not too large.

    The parts of a first form are first forms, and of lesser sizes.
    """
    forms = dict([(number, ANY) for number in sizes if number not in chosen])
    for size, number in sorted([(sizes[number], number) for number in chosen]):
        if size <= FORM:
            name, parts = family.makers[number][chosen[number]]
            forms[number] = ("make", name, *[forms[part] for part in parts])
    return forms


def least_keys(family, sizes, chosen):
    """Return the dict of the keys of these forms, whose order is that of forms: (size, index of the maker, parts)."""
    keys = dict([(number, (0,)) for number in sizes if number not in chosen])
    for size, number in sorted([(sizes[number], number) for number in chosen]):
        if size <= FORM:
            _, parts = family.makers[number][chosen[number]]
            keys[number] = (size, chosen[number], *[keys[part] for part in parts])
    return keys
