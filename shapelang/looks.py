"""Looks for solutions of sets of groups, and the least sets that they find."""

from shapelang.bounds import LISTED
from shapelang.choosing import choice
from shapelang.equations import numbered_groups
from shapelang.errors import TooMany
from shapelang.masks import lies_within, mask_of, members_of, without
from shapelang.unifying import order_by, solved_by, united_in_turn, variable_masks, variable_nodes


class Looks:
    """Groups with the clashes and repairs that are known already; sets of groups are masks."""

    def __init__(self, groups):
        self.nodes, self.pairs = numbered_groups(groups)
        self.variables = variable_nodes(self.nodes)
        self.masks = variable_masks(self.nodes)
        self.every = mask_of(list(range(len(groups))))
        self.clashes = []
        self.repairs = []

    def fit(self, mask):
        """Return whether the groups of the mask together have a solution."""
        # What is known answers most questions, and much sooner than a look.
        if any([lies_within(clash, mask) for clash in self.clashes]):
            return False
        if any([not repair & mask for repair in self.repairs]):
            return True
        pairs = [pair for member, pairs in enumerate(self.pairs) if mask >> member & 1 for pair in pairs]
        return solved_by(self.nodes, self.variables, self.masks, pairs) is not None

    def first_lost(self, kept, most):
        """Return the least number of the first groups that have no solution together with those that are kept.

        Return None if even so many, the most, have one.
        """
        groups = [[pair for member in kept for pair in self.pairs[member]], *self.pairs[:most]]
        leaders, done = united_in_turn(self.nodes, groups)
        if done <= most:
            # Of the group with unlike tuples, nothing is to be left.
            leaders, _ = united_in_turn(self.nodes, groups[:done])
        if order_by(self.nodes, self.variables, self.masks, leaders) is not None:
            return done if done <= most else None
        inside = mask_of(kept)
        low, high = 0, max(done - 1, 0)
        while low < high:
            middle = (low + high) // 2
            if self.fit(inside | mask_of(list(range(middle)))):
                low = middle + 1
            else:
                high = middle
        return low

    def first_clash(self):
        """Return the ascending tuple of the groups that are left from the last one to the first one, None for none."""
        kept = []
        lost = self.first_lost(kept, len(self.pairs))
        if lost is None:
            return None
        while lost > 0:
            # Without this one the first groups have a solution; all between them and the kept ones are left out.
            kept.append(lost - 1)
            lost = self.first_lost(kept, lost - 1)
        return tuple(kept[::-1])

    def lessened(self, mask):
        """Return the clash that is left of a mask, from the last group to the first one."""
        return self.with_fewer(mask, members_of(mask)[::-1])

    def with_fewer(self, mask, members):
        """Return the mask without each of these members, in this order, without which there is no solution."""
        rest = without(mask, mask_of(members))
        # What holds for many at once holds for each of them.
        if not self.fit(rest):
            return rest
        if len(members) < 2:
            return mask
        half = len(members) // 2
        return self.with_fewer(self.with_fewer(mask, members[:half]), members[half:])

    def left_over(self, mask):
        """Return the repair that is left if a mask gets all it can, from the first group to the last."""
        return without(self.every, self.with_more(mask, members_of(without(self.every, mask))))

    def with_more(self, mask, members):
        """Return the mask with each of these members, in this order, with which there is a solution."""
        more = mask | mask_of(members)
        if self.fit(more):
            return more
        if len(members) < 2:
            return mask
        half = len(members) // 2
        return self.with_more(self.with_more(mask, members[:half]), members[half:])

    def widened(self, mask):
        """Return the mask with all it can get, from the first group to the last, without a known clash in it."""
        for member in members_of(without(self.every, mask)):
            bit = 1 << member
            if not any([without(clash, mask) == bit for clash in self.clashes]):
                mask = mask | bit
        return mask

    def find_all(self):
        """Find all clashes and all repairs.

        A set that has a group of each known repair, and not all groups of any known clash, leads
        to a new clash or a new repair: what is left out of it, once it is widened, has a group of
        each known clash, but not without any one of its own. If there is no such set, all are known.
        """
        mask = choice(self.repairs, self.clashes, self.every)
        while mask is not None:
            mask = self.widened(mask)
            if self.fit(mask):
                self.repairs.append(without(self.every, mask))
            else:
                self.clashes.append(self.lessened(mask))
            if len(self.clashes) > LISTED or len(self.repairs) > LISTED:
                raise TooMany(LISTED)
            mask = choice(self.repairs, self.clashes, self.every)
