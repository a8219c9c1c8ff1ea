"""Papers of clashes, which anybody can check."""

from shapelang.chains import equations_shown, is_index
from shapelang.equations import numbered_groups, solution_holds, solve
from shapelang.errors import BadChain
from shapelang.proofs import Proof, kept_rows
from shapelang.rings import ring_of
from shapelang.shapes import same_front, variables_of


def chain_shows(groups, value):
    """Return the tuple of the equations that the rows of a chain show."""
    return tuple(equations_shown(dict(enumerate(groups)), value))


def chain_and_ring(groups, clash):
    """Return a chain and a ring that show that the groups of the clash have no solution."""
    nodes, pairs = numbered_groups([groups[number] for number in clash])
    proof = Proof(nodes)
    given = [(one, other, ("given", number, index))
             for number, group in zip(clash, pairs) for index, (one, other) in enumerate(group)]
    last = proof.unite_all(given)
    if last is not None:
        return kept_rows(proof.rows, [last])[0], ()
    stands = [proof.stand(number)[0] for number in range(len(nodes))]
    roots = [proof.stand(variable)[1] for variable, _ in ring_of(nodes, stands)]
    chain, ring = kept_rows(proof.rows, roots)
    return chain, tuple(ring)


def others_of(groups, clash, number):
    """Return the tuple of the groups of the clash without this one."""
    return tuple([groups[other] for other in clash if other != number])


def paper_of(groups, clash):
    """Return a paper of a clash."""
    solutions = tuple([solve(others_of(groups, clash, number)) for number in clash])
    chain, ring = chain_and_ring(groups, clash)
    return (chain, ring, solutions)


def ends_unlike(shown):
    """Whether the last equation is one of two tuples that are not equal by their own items."""
    if not shown:
        return False
    one, other = shown[-1]
    return isinstance(one, tuple) and isinstance(other, tuple) and not same_front(one, other)


def is_ring(shown, ring):
    """Whether the value is a tuple of numbers of equations that lead from variable to variable and back."""
    if not isinstance(ring, tuple) or len(ring) == 0:
        return False
    if not all([is_index(row, len(shown)) for row in ring]):
        return False
    pairs = [shown[row] for row in ring]
    if any([isinstance(one, tuple) or not isinstance(other, tuple) for one, other in pairs]):
        return False
    around = [pairs[-1], *pairs[:-1]]
    return all([pair[0] in variables_of(before[1]) for before, pair in zip(around, pairs)])


def chain_holds(groups, clash, chain, ring):
    """Whether a chain with its ring shows that the groups of the clash have no solution."""
    given = dict([(number, groups[number]) for number in clash])
    try:
        shown = equations_shown(given, chain)
    except BadChain:
        return False
    return ends_unlike(shown) if ring == () else is_ring(shown, ring)


def paper_holds(groups, clash, value):
    """Return whether the value is a paper of a clash."""
    if not isinstance(value, tuple) or len(value) != 3:
        return False
    chain, ring, solutions = value
    if not isinstance(solutions, tuple) or len(solutions) != len(clash):
        return False
    if not chain_holds(groups, clash, chain, ring):
        return False
    return all([solution_holds(others_of(groups, clash, number), solution)
                for number, solution in zip(clash, solutions)])
