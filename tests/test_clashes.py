import random
import unittest
from itertools import combinations

from samples import BOOL, INT, ODD_VALUES, Raises, random_groups
from shapelang.clashes import all_clashes, all_repairs, fewest_repair, find_clash, find_repair, is_clash, is_repair
from shapelang.equations import has_solution
from shapelang.errors import TooMany

G = (((0, ("Int",)),), ((1, ("Bool",)),), ((0, 1),), ((0, ("Int",)),))
LISTED = {"limit": 50}


def star(many):
    """Groups with so many clashes of two groups, the first one in each, and two repairs."""
    return (((0, INT),), *[((0, BOOL),) for _ in range(many)])


def ring(many):
    """Groups that are one clash together, so that there are as many repairs."""
    return (((0, INT),), *[((name, name + 1),) for name in range(many - 2)], ((many - 2, BOOL),))


def moved(groups, first):
    """The groups with greater variables."""
    def put(shape):
        return shape + first if isinstance(shape, int) else (shape[0], *[put(part) for part in shape[1:]])

    return tuple(tuple((put(one), put(other)) for one, other in group) for group in groups)


def sets_of(groups):
    """All clashes and all repairs, found by a look at all sets of groups."""
    numbers = range(len(groups))
    sets = [chosen for many in range(len(groups) + 1) for chosen in combinations(numbers, many)]
    fit = {chosen: has_solution(tuple(groups[number] for number in chosen)) for chosen in sets}
    clashes, repairs = [], []
    for chosen in sets:
        if not fit[chosen] and all(fit[tuple(n for n in chosen if n != out)] for out in chosen):
            clashes.append(chosen)
        if fit[tuple(n for n in numbers if n not in chosen)]:
            if not any(fit[tuple(n for n in numbers if n not in chosen or n == back)] for back in chosen):
                repairs.append(chosen)
    return tuple(sorted(clashes)), tuple(sorted(repairs))


def left_by_leaving_out(groups):
    """What point 7 says of find_clash, done word by word."""
    stay = list(range(len(groups)))
    if has_solution(groups):
        return None
    for number in range(len(groups))[::-1]:
        rest = [other for other in stay if other != number]
        if not has_solution(tuple(groups[other] for other in rest)):
            stay = rest
    return tuple(stay)


def left_by_keeping(groups):
    """What point 7 says of find_repair, done word by word."""
    kept = []
    for number in range(len(groups)):
        if has_solution(tuple(groups[other] for other in [*kept, number])):
            kept.append(number)
    return tuple(number for number in range(len(groups)) if number not in kept)


class Clashes(Raises, unittest.TestCase):
    def test_examples(self):
        self.assertEqual([is_clash(G, (0, 1, 2)), is_clash(G, (0, 1, 2, 3)), is_repair(G, (2,)), is_repair(G, (0, 3))],
                         [True, False, True, True])
        self.assertEqual([find_clash(G), find_repair(G), find_clash(G[:3:2])], [(0, 1, 2), (2,), None])
        self.assertEqual([all_clashes(G), all_repairs(G), all_clashes(()), all_repairs(())],
                         [((0, 1, 2), (1, 2, 3)), ((0, 3), (1,), (2,)), (), ((),)])
        self.assertEqual(fewest_repair(G), (1,))

    def test_sets_that_are_not_least(self):
        for value in ((), (0,), (0, 1), (0, 1, 3), (0, 2, 3), (0, 1, 2, 3)):
            self.assertIs(is_clash(G, value), False)
        self.assertIs(is_clash(G, (1, 2, 3)), True)
        for value in ((), (0,), (3,), (0, 1), (1, 2), (0, 2, 3), (0, 1, 2, 3)):
            self.assertIs(is_repair(G, value), False)
        self.assertIs(is_repair(G, (1,)), True)

    def test_tuples_that_are_not_ascending_or_have_other_indexes(self):
        for value in ((0, 2, 1), (2, 1, 0), (0, 0, 1, 2), (0, 1, 2, 2), (0, 1, 2, 4), (-1, 1, 2), (0, 1, 2, 10 ** 79)):
            self.assertIs(is_clash(G, value), False)
        for value in ((3, 0), (0, 0, 3), (0, 3, 4), (-4, 3), (-3,), (4,), (1, 1)):
            self.assertIs(is_repair(G, value), False)

    def test_truths_are_no_numbers(self):
        self.assertIs(is_clash(G, (0, True, 2)), False)
        self.assertIs(is_clash(G, (False, 1, 2)), False)
        self.assertIs(is_repair(G, (True,)), False)
        self.assertIs(is_repair(G, (False, 3)), False)

    def test_any_value(self):
        for value in [*ODD_VALUES, [0, 1, 2], [1], "012", {0: 1, 1: 2, 2: 3}, (("0",),), ((0, 1, 2),), (None,), 1,
                      ("0", "1"), (0, "1", 2), (0, [1], 2)]:
            self.assertIs(is_clash(G, value), False)
            self.assertIs(is_repair(G, value), False)

    def test_with_a_solution(self):
        for groups in ((), ((),), G[:2], G[2:], (G[0], G[3])):
            self.assertIs(is_clash(groups, ()), False)
            self.assertIs(is_repair(groups, ()), True)
            self.assertIs(is_repair(groups, (0,)), False)
            self.assertIsNone(find_clash(groups))
            self.assertEqual(find_repair(groups), ())
            self.assertEqual((all_clashes(groups), all_repairs(groups), fewest_repair(groups)), ((), ((),), ()))

    def test_a_group_that_clashes_by_itself(self):
        groups = (((0, INT),), ((1, ("Box", 1)),), ((INT, BOOL),))
        self.assertEqual((all_clashes(groups), all_repairs(groups)), (((1,), (2,)), ((1, 2),)))
        self.assertEqual((find_clash(groups), find_repair(groups), fewest_repair(groups)), ((1,), (1, 2), (1, 2)))
        self.assertIs(is_clash(groups, (1,)), True)
        self.assertIs(is_clash(groups, (1, 2)), False)

    def test_find_by_the_order_of_the_groups(self):
        groups = (((0, INT),), ((0, BOOL),), ((0, ("Unit",)),))
        self.assertEqual((find_clash(groups), find_repair(groups)), ((0, 1), (1, 2)))
        self.assertEqual((find_clash(G[::-1]), find_repair(G[::-1])), ((0, 1, 2), (2,)))
        source = random.Random(3)
        for _ in range(300):
            groups = random_groups(source, source.randrange(7), names=4)
            self.assertEqual(find_clash(groups), left_by_leaving_out(groups))
            self.assertEqual(find_repair(groups), left_by_keeping(groups))

    def test_all_sets_of_small_inputs(self):
        source = random.Random(4)
        most = 0
        for _ in range(250):
            groups = random_groups(source, source.randrange(8), names=4, depth=1)
            clashes, repairs = sets_of(groups)
            self.assertEqual((all_clashes(groups), all_repairs(groups)), (clashes, repairs))
            self.assertEqual(fewest_repair(groups), min(repairs, key=lambda repair: (len(repair), repair)))
            most = max(most, len(clashes))
            for many in range(4):
                for chosen in combinations(range(len(groups)), many):
                    self.assertIs(is_clash(groups, chosen), chosen in clashes)
                    self.assertIs(is_repair(groups, chosen), chosen in repairs)
        self.assertGreater(most, 4)

    def test_clashes_and_repairs_meet(self):
        source = random.Random(5)
        for _ in range(60):
            groups = random_groups(source, 12, names=5, depth=1)
            clashes, repairs = all_clashes(groups), all_repairs(groups)
            self.assertEqual(clashes, tuple(sorted(clashes)))
            self.assertEqual(repairs, tuple(sorted(repairs)))
            for clash in clashes:
                self.assertIs(is_clash(groups, clash), True)
                self.assertTrue(all(set(clash) & set(repair) for repair in repairs))
            for repair in repairs:
                self.assertIs(is_repair(groups, repair), True)

    def test_fifty_clashes(self):
        groups = star(50)
        self.assertEqual(all_clashes(groups), tuple((0, number) for number in range(1, 51)))
        self.assertEqual(all_repairs(groups), ((0,), tuple(range(1, 51))))
        self.assertEqual(fewest_repair(groups), (0,))

    def test_fifty_repairs(self):
        groups = ring(50)
        self.assertEqual(all_clashes(groups), (tuple(range(50)),))
        self.assertEqual(all_repairs(groups), tuple((number,) for number in range(50)))
        self.assertEqual(fewest_repair(groups), (0,))

    def test_more_than_are_listed(self):
        pairs = tuple(group for name in range(40) for group in (((name, INT),), ((name, BOOL),)))
        for groups in (star(51), ring(51), pairs, pairs[:12], (*star(40), *moved(star(11), 1))):
            for function in (all_clashes, all_repairs, fewest_repair):
                self.refused(TooMany, LISTED, function, groups)
        self.assertEqual(len(all_repairs(pairs[:10])), 32)

    def test_thirty_groups(self):
        groups = (*star(10), *moved(ring(10), 1), *[((150, ("Box", 151)),) for _ in range(9)])
        self.assertEqual(len(groups), 30)
        ten = tuple(range(1, 11))
        self.assertEqual(all_clashes(groups), (*[(0, number) for number in ten], tuple(range(11, 21))))
        first = [(0, number) for number in range(11, 21)]
        self.assertEqual(all_repairs(groups), tuple([*first, *[(*ten, number) for number in range(11, 21)]]))
        self.assertEqual(fewest_repair(groups), (0, 11))

    def test_twenty_clashes_and_repairs(self):
        groups = (*star(4), *moved(ring(3), 1), *moved(star(3), 4), *[((150, ("Box", 151)),) for _ in range(18)])
        self.assertEqual((len(groups), len(all_clashes(groups)), len(all_repairs(groups))), (30, 8, 12))
        threes = tuple(((100, (name,)),) for name in ("A", "B", "C", "D", "E", "F", "G"))
        groups = (*threes, *[((150, ("Box", 151)),) for _ in range(23)])
        self.assertEqual(all_clashes(groups), tuple(combinations(range(7), 2)))
        self.assertEqual(all_repairs(groups), tuple(sorted(combinations(range(7), 6))))
        self.assertEqual(fewest_repair(groups), (0, 1, 2, 3, 4, 5))

    def test_the_first_of_the_fewest(self):
        groups = (((0, INT),), ((0, INT),), ((0, BOOL),), ((0, BOOL),), ((1, INT),), ((1, BOOL),))
        self.assertEqual(all_repairs(groups), ((0, 1, 4), (0, 1, 5), (2, 3, 4), (2, 3, 5)))
        self.assertEqual(fewest_repair(groups), (0, 1, 4))
        groups = (*groups[:4], ((0, BOOL),))
        self.assertEqual(all_repairs(groups), ((0, 1), (2, 3, 4)))
        self.assertEqual(fewest_repair(groups[::-1]), (3, 4))
        self.assertEqual(all_repairs(groups[::-1]), ((0, 1, 2), (3, 4)))

    def test_groups_with_variables_within_themselves(self):
        towers = [((name, ("Pair", name + 1, name + 1)),) for name in range(40)]
        groups = (*towers, ((40, 0),))
        self.assertEqual(all_clashes(groups), (tuple(range(41)),))
        self.assertEqual(len(all_repairs(groups)), 41)
        self.assertEqual(find_clash(groups), tuple(range(41)))
        self.assertEqual(find_repair(groups), (40,))


if __name__ == "__main__":
    unittest.main()
