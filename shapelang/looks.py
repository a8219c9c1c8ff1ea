"""Looks for solutions of sets of groups, and the least sets that they find."""

from shapelang.bounds import LISTED
from shapelang.choosing import choice
from shapelang.equations import numbered_groups
from shapelang.errors import TooMany
from shapelang.masks import lies_within, mask_of, members_of, without
from shapelang.unifying import solved_by, variable_masks


class Looks:
    """Groups with the clashes and repairs that are known already; sets of groups are masks."""

    def __init__(self, groups):
        self.nodes, self.pairs = numbered_groups(groups)
        self.variables = variable_masks(self.nodes)
        self.every = mask_of(list(range(len(groups))))
        self.clashes = []
        self.repairs = []

    def fit(self, mask):
        """Return whether the groups of the mask together have a solution."""
        # What is known answers most questions, and much sooner than a look.
        if any([lies_within(clash, mask) for clash in self.clashes]):
            return False
        if any([not repair & mask for repair in self.repairs]):
            return True
        pairs = [pair for member in members_of(mask) for pair in self.pairs[member]]
        return solved_by(self.nodes, self.variables, pairs) is not None

    def lessened(self, mask):
        """Return the clash that is left of a mask, from the last group to the first one."""
        for member in members_of(mask)[::-1]:
            rest = without(mask, 1 << member)
            if not self.fit(rest):
                mask = rest
        return mask

    def left_over(self, mask):
        """Return the repair that is left if a mask gets all it can, from the first group to the last."""
        for member in members_of(without(self.every, mask)):
            more = mask | 1 << member
            if self.fit(more):
                mask = more
        return without(self.every, mask)

    def find_all(self):
        """Find all clashes and all repairs.

        A set that has a group of each known repair, and not all groups of any known clash, leads
        to a new clash or a new repair. If there is no such set, all are known.
        """
        mask = choice(self.repairs, self.clashes, self.every)
        while mask is not None:
            if self.fit(mask):
                self.repairs.append(self.left_over(mask))
            else:
                self.clashes.append(self.lessened(mask))
            if len(self.clashes) > LISTED or len(self.repairs) > LISTED:
                raise TooMany(LISTED)
            mask = choice(self.repairs, self.clashes, self.every)
