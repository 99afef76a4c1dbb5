"""Lots of goals, and how few lots they can be dealt into that can be told.

A set of goals is a number here, its bits the indexes of its members among all goals.
"""

from spentframes.wholes import is_sequence, is_whole

# More lots than there can be goals: a set that cannot be dealt at all counts as dealt into so many.
NO_DEALING = 99


def is_within(one, other):
    """Tell whether all members of a set are in another one."""
    return one & other == one


class Lots:
    """All sets of some goals."""

    def __init__(self, order, names):
        self.order = order
        self.names = names
        self.full = (1 << len(names)) - 1
        self.rests = [self._find_rest(mask) for mask in range(self.full + 1)]
        # What can be told with 0, 1, .. frames left, and in how few such lots each set can be dealt.
        self.told = []
        self.fewest = []

    def _members(self, mask):
        """Return the indexes of the members of a set, ascending."""
        return [at for at in range(len(self.names)) if mask >> at & 1]

    def _find_rest(self, mask):
        """Return a set without its least goal, if it has one."""
        members = self._members(mask)
        for at in members:
            if all([self.order.at_most(self.names[at], self.names[other]) for other in members]):
                return mask - (1 << at)
        return mask

    def rest_of(self, mask):
        """Return the rest of a lot."""
        return self.rests[mask]

    def mask_of(self, lot):
        """Return the set of a lot that is a sequence of goals, ascending without doubles, None for anything else."""
        if not is_sequence(lot) or len(lot) == 0:
            return None
        mask = 0
        for at, goal in enumerate(lot):
            if not is_whole(goal) or goal not in self.names or (at > 0 and goal <= lot[at - 1]):
                return None
            mask += 1 << self.names.index(goal)
        return mask

    def _splits_of(self, mask, is_let):
        """Return couples of a lot that is let and holds the least member of a set, and the others of the set."""
        lowest = mask & -mask
        splits = []
        part = mask
        while part > 0:
            if part & lowest and is_let[part]:
                splits.append((part, mask - part))
            part = (part - 1) & mask
        return splits

    def fewest_parts(self, let):
        """Return for each set into how few of the lots let it can be dealt, NO_DEALING if it cannot."""
        is_let = [False] * (self.full + 1)
        for mask in let:
            is_let[mask] = True
        fewest = [0]
        for mask in range(1, self.full + 1):
            found = [fewest[others] + 1 for _, others in self._splits_of(mask, is_let)]
            fewest.append(min(found + [NO_DEALING]))
        return fewest

    def told_with(self, k):
        """Return for each set whether it is a lot that can be told with k frames left."""
        while len(self.told) <= k:
            left = len(self.told)
            told = [rest == 0 or (left > 0 and self.fewest[left - 1][rest] <= left) for rest in self.rests]
            self.told.append(told)
            self.fewest.append(self.fewest_parts([mask for mask in range(1, self.full + 1) if told[mask]]))
        return self.told[k]

    def can_deal(self, mask, many):
        """Tell whether a set can be dealt into so many lots at most that can be told with one frame less left."""
        if mask == 0 or many == 0:
            return mask == 0
        self.told_with(many - 1)
        return self.fewest[many - 1][mask] <= many

    def can_deal_all(self, m):
        """Tell whether there are right goal rows over m frames."""
        return self.can_deal(self.full, m)

    def least_untold(self, k):
        """Return the lots that cannot be told with k frames left and that contain no other such lot, ascending."""
        told = self.told_with(k)
        least = []
        # A set has a greater number than the sets within it.
        for mask in range(1, self.full + 1):
            if not told[mask] and not any([is_within(lot, mask) for lot in least]):
                least.append(mask)
        return tuple(sorted([tuple([self.names[at] for at in self._members(mask)]) for mask in least]))

    def _deal(self, mask, left, row, rows):
        """Give the members of a set rows that begin with a row, of the frames left behind it.

        A set that can be told is given the row itself for its least goal.
        """
        told = self.told_with(len(left) - 1)
        fewest = self.fewest[len(left) - 1]
        for frame in left:
            if mask == 0:
                return
            splits = self._splits_of(mask, told)
            lot, mask = min([(fewest[others], part, others) for part, others in splits])[1:]
            rest = self.rests[lot]
            behind = row + (frame,)
            for at in self._members(lot - rest):
                rows[at] = behind
            if rest != 0:
                self._deal(rest, [other for other in left if other != frame], behind, rows)

    def deal_rows_to_all(self, m):
        """Return right goal rows over m frames, or None if there are none."""
        if not self.can_deal_all(m):
            return None
        rows = {}
        self._deal(self.full, list(range(m)), (), rows)
        return tuple([rows[at] for at in range(len(self.names))])
