"""Variables bound to shapes: a quick way to what equal shapes need, without numbers of nodes.

What is found of some equations is a pair (links, values): links are, for variables that equal a
lesser one, such a lesser one; values the tuples that the other ones equal, if any. Most equations
need few steps. Where the same parts would be compared again and again, there is no bound to the
steps: so they are counted, and unifying finds the same in another way.
Schemes meet by operators, which may change nothing: therefore each function here changes only
lists and dicts that it has made itself.
"""

# What is found if more steps were needed than this.
LONG = "long"
MOST_STEPS = 20000


def bound(equations):
    """Return what is found of these equations, None if unlike tuples had to be equal, LONG for too many steps."""
    links = {}
    values = {}
    waiting = list(equations)
    for _ in range(MOST_STEPS):
        if not waiting:
            return links, values
        one, other = waiting.pop()
        if isinstance(one, tuple):
            one, other = other, one
        if not isinstance(one, tuple):
            while one in links:
                one = links[one]
            if isinstance(other, tuple):
                if one not in values:
                    values[one] = other
                    continue
                one = values[one]
            else:
                while other in links:
                    other = links[other]
                if one != other:
                    rest, least = max(one, other), min(one, other)
                    links[rest] = least
                    if rest in values:
                        if least in values:
                            waiting.append((values[rest], values[least]))
                        values[least] = values[rest]
                        del values[rest]
                continue
        while len(one) == 2 and len(other) == 2 and one[0] == other[0] and isinstance(other[1], tuple):
            if not isinstance(one[1], tuple):
                break
            one, other = one[1], other[1]
        if one[0] != other[0] or len(one) != len(other):
            return None
        waiting.extend(list(zip(one[1:], other[1:])))
    return LONG


def inner_variables(shape):
    """Return the list or tuple of the variables in a tuple, some perhaps more than once."""
    parts = shape[1:]
    for part in parts:
        if isinstance(part, tuple):
            return deep_variables(parts)
    return parts


def deep_variables(parts):
    """Return the list of the variables in these shapes, some perhaps more than once."""
    found = []
    waiting = list(parts)
    while waiting:
        part = waiting.pop()
        while isinstance(part, tuple) and len(part) == 2:
            part = part[1]
        if not isinstance(part, tuple):
            found.append(part)
        else:
            waiting.extend(part[1:])
    return found


def last_link(links, variable):
    """Return the variable that stands for this one."""
    while variable in links:
        variable = links[variable]
    return variable


def inner_stands(links, values, variable):
    """Return the list of the variables that stand for those in the value of a variable."""
    found = inner_variables(values[variable])
    return [last_link(links, inner) for inner in found] if links else found


def order_of(links, values):
    """Return the list of the variables with values, each behind those that its value needs.

    Return None if one had to be within itself.
    """
    inside = dict([(variable, inner_stands(links, values, variable)) for variable in values])
    if all([min(inside[variable], default=variable + 1) > variable for variable in inside]):
        return sorted(inside, reverse=True)
    if all([max(inside[variable], default=-1) < variable for variable in inside]):
        return sorted(inside)
    return searched_order(inside)


def searched_order(inside):
    """Return what order_of does, of the variables that the value of each variable needs."""
    done = {}
    begun = {}
    for start in inside:
        road = [start]
        while road:
            variable = road[-1]
            if variable in begun:
                done[variable] = True
                road.pop()
                continue
            begun[variable] = True
            for inner in inside[variable]:
                if inner in inside and inner not in done:
                    if inner in begun:
                        return None
                    road.append(inner)
    return list(done)


def members_of_links(links):
    """Return the dict of the lists of the variables that others stand for, by those."""
    members = {}
    for variable in links:
        stand = last_link(links, variable)
        members[stand] = [*members[stand], variable] if stand in members else [variable]
    return members
