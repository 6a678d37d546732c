import inspect
import random
import unittest
from itertools import combinations, product

from glazetold import trees
from glazetold.trees import least_tree, settles


def depth_of(tree):
    if tree[0] == "known":
        return 0
    return 1 + max([depth_of(below) for look, below in tree[2]], default=0)


def reached(tree, row):
    """The numbers to which the looks of a row lead, or None."""
    if tree[0] == "known":
        return tree[1]
    below = dict(tree[2])
    if tree[1] not in range(len(row)) or row[tree[1]] not in below:
        return None
    return reached(below[row[tree[1]]], row)


def required_settles(doubts, tree):
    return all(reached(tree, row) == tuple(at for at, other in enumerate(doubts) if other == row) for row in doubts)


def least_depth(doubts):
    """By going through all trials at each step, also such as tell nothing."""
    if len(set(doubts)) <= 1:
        return 0
    depths = []
    for number in range(len(doubts[0])):
        looks = {row[number] for row in doubts}
        if len(looks) > 1:
            depths.append(1 + max(least_depth(tuple(row for row in doubts if row[number] == look)) for look in looks))
    return min(depths)


def all_trees(deep, rows, looks, names):
    """All trees of at most such a depth over so many rows, so many looks and these names."""
    told = [("known", numbers) for many in range(rows + 1) for numbers in combinations(range(rows), many)]
    if deep == 0:
        return told
    below = all_trees(deep - 1, rows, looks, names)
    for number in range(looks):
        for chosen in product([None] + below, repeat=len(names)):
            branches = tuple((name, tree) for name, tree in zip(names, chosen) if tree is not None)
            told.append(("try", number, branches))
    return told


class LeastTest(unittest.TestCase):
    def assert_tree(self, tree, doubts):
        """A tree such as the document tells, all kinds of it."""
        self.assertIs(type(tree), tuple)
        if tree[0] == "known":
            self.assertEqual((len(tree), type(tree[1])), (2, tuple))
            self.assertEqual([type(number) for number in tree[1]], [int] * len(tree[1]))
            return
        self.assertEqual((tree[0], len(tree), type(tree[1]), type(tree[2])), ("try", 3, int, tuple))
        looks = [look for look, below in tree[2]]
        self.assertEqual(looks, sorted(set(looks)))
        for branch in tree[2]:
            self.assertIs(type(branch), tuple)
            self.assert_tree(branch[1], doubts)

    def assert_settled(self, doubts, depth=None):
        told = least_tree(doubts)
        self.assertEqual((type(told), len(told), type(told[0])), (tuple, 2, int))
        self.assert_tree(told[1], doubts)
        self.assertEqual(depth_of(told[1]), told[0])
        self.assertTrue(required_settles(doubts, told[1]))
        self.assertIs(settles(doubts, told[1]), True)
        self.assertEqual(least_tree(doubts), told)
        if depth is not None:
            self.assertEqual(told[0], depth)
        return told[0]

    def test_one_row(self):
        self.assertEqual(least_tree((("glossy", "matt"),)), (0, ("known", (0,))))
        self.assertEqual(least_tree(((),)), (0, ("known", (0,))))

    def test_rows_all_the_same(self):
        self.assertEqual(least_tree((("glossy", "matt"),) * 8), (0, ("known", (0, 1, 2, 3, 4, 5, 6, 7))))

    def test_no_looks_at_all(self):
        for many in range(1, 9):
            self.assertEqual(least_tree(((),) * many), (0, ("known", tuple(range(many)))))

    def test_two_rows(self):
        told = least_tree((("matt", "matt"), ("matt", "glossy")))
        self.assertEqual(told, (1, ("try", 1, (("glossy", ("known", (1,))), ("matt", ("known", (0,)))))))

    def test_some_rows_the_same(self):
        doubts = (("b", "a"), ("a", "a"), ("b", "a"), ("a", "b"), ("a", "a"))
        self.assert_settled(doubts, 2)
        self.assertEqual(reached(least_tree(doubts)[1], ("b", "a")), (0, 2))
        self.assertEqual(reached(least_tree(doubts)[1], ("a", "a")), (1, 4))
        self.assertEqual(reached(least_tree(doubts)[1], ("a", "b")), (3,))

    def test_many_looks_of_one_trial(self):
        self.assert_settled(tuple((look,) for look in "hgfedcba"), 1)

    def test_eight_rows_of_eight_looks(self):
        halves = tuple(tuple("ab"[at >> place & 1] for place in range(3)) + ("a",) * 5 for at in range(8))
        self.assert_settled(halves, 3)
        ones = tuple(tuple("b" if at == number else "a" for number in range(8)) for at in range(8))
        self.assert_settled(ones, 7)
        stairs = tuple(tuple("b" if at > number else "a" for number in range(8)) for at in range(8))
        self.assert_settled(stairs, 3)

    def test_the_trial_that_parts_most_is_not_always_the_first(self):
        doubts = (("a", "x", "p"), ("b", "x", "p"), ("c", "x", "q"), ("c", "y", "q"), ("c", "y", "p"), ("c", "x", "p"))
        self.assert_settled(doubts, least_depth(doubts))

    def test_all_small_doubts(self):
        for many, looks in ((1, 2), (2, 2), (3, 2), (4, 2), (3, 3)):
            for cells in product("ab", repeat=many * looks):
                doubts = tuple(cells[at * looks:(at + 1) * looks] for at in range(many))
                self.assert_settled(doubts, least_depth(doubts))

    def test_no_tree_at_all_is_less_deep(self):
        known = {}
        for many, looks in ((2, 1), (2, 2), (3, 2), (3, 3), (4, 2)):
            for deep in (0, 1):
                known[(deep, many, looks)] = all_trees(deep, many, looks, "ab")
            for cells in product("ab", repeat=many * looks):
                doubts = tuple(cells[at * looks:(at + 1) * looks] for at in range(many))
                depth = self.assert_settled(doubts)
                self.assertLessEqual(depth, 2)
                for tree in known[(depth - 1, many, looks)] if depth else []:
                    self.assertFalse(required_settles(doubts, tree))

    def test_by_chance(self):
        chance = random.Random(15)
        for at in range(120):
            names = ("matt", "glossy", "dull", "x")[:chance.randint(1, 4)]
            looks = chance.randint(0, 8)
            doubts = tuple(tuple(chance.choice(names) for number in range(looks))
                           for row in range(chance.randint(1, 8)))
            self.assert_settled(doubts, least_depth(doubts))

    def test_by_name(self):
        self.assertEqual(least_tree(doubts=(("a",),)), (0, ("known", (0,))))


class SettlesTest(unittest.TestCase):
    DOUBTS = (("a", "x"), ("b", "x"), ("b", "y"), ("b", "x"))
    TREE = ("try", 0, (("a", ("known", (0,))), ("b", ("try", 1, (("x", ("known", (1, 3))), ("y", ("known", (2,))))))))

    def second(self, below):
        """The tree with another one behind the look b."""
        return ("try", 0, (("a", ("known", (0,))), ("b", below)))

    def assert_settles(self, tree, expected):
        self.assertIs(settles(self.DOUBTS, tree), expected, tree)
        self.assertIs(required_settles(self.DOUBTS, tree), expected, tree)

    def test_a_right_tree(self):
        self.assert_settles(self.TREE, True)
        self.assertIs(settles(tree=self.TREE, doubts=self.DOUBTS), True)

    def test_a_right_tree_that_is_not_the_least(self):
        again = ("try", 0, (("a", self.TREE), ("b", self.TREE)))
        self.assert_settles(again, True)
        self.assert_settles(("try", 1, (("x", again), ("y", again))), True)

    def test_branches_that_no_row_goes(self):
        more = ("try", 9, (("a", ("known", (7, -1))),))
        branches = (("a", ("known", (0,))), ("b", self.TREE[2][1][1]), ("c", more), ("d", ("known", ())))
        self.assert_settles(("try", 0, branches), True)

    def test_a_number_that_no_look_has(self):
        for number in (2, 3, 8, 10 ** 40 - 1):
            self.assert_settles(self.second(("try", number, self.TREE[2][1][1][2])), False)

    def test_a_number_below_nought(self):
        right = self.TREE[2][1][1][2]
        for number in (-1, -2, -3, 1 - 10 ** 40):
            self.assert_settles(self.second(("try", number, right)), False)
        self.assert_settles(("try", -2, self.TREE[2]), False)

    def test_a_look_without_a_branch(self):
        self.assert_settles(("try", 0, self.TREE[2][:1]), False)
        self.assert_settles(("try", 0, self.TREE[2][1:]), False)
        self.assert_settles(("try", 0, ()), False)
        self.assert_settles(self.second(("try", 1, (("x", ("known", (1, 3))),))), False)
        self.assert_settles(self.second(("try", 1, (("w", ("known", (1, 3))), ("y", ("known", (2,)))))), False)

    def test_numbers_in_another_order_one_more_or_one_less(self):
        for numbers in ((3, 1), (1,), (3,), (), (1, 2, 3), (0, 1, 3), (1, 3, 4), (1, 1, 3), (1, -1), (1, 2)):
            self.assert_settles(self.second(("try", 1, (("x", ("known", numbers)), ("y", ("known", (2,)))))), False)

    def test_known_at_once(self):
        self.assert_settles(("known", (0, 1, 2, 3)), False)
        same = (("a", "x"),) * 3
        self.assertIs(settles(same, ("known", (0, 1, 2))), True)
        for numbers in ((0, 1), (0, 2, 1), (), (0, 1, 2, 3), (0,)):
            self.assertIs(settles(same, ("known", numbers)), False)

    def test_rows_of_no_looks(self):
        self.assertIs(settles(((), ()), ("known", (0, 1))), True)
        self.assertIs(settles(((), ()), ("known", (0,))), False)
        for number in (-1, 0, 1):
            self.assertIs(settles(((), ()), ("try", number, (("a", ("known", (0, 1))),))), False)

    def test_one_wrong_row_is_enough(self):
        doubts = (("a",), ("b",), ("c",))
        for wrong in range(3):
            branches = tuple((look, ("known", (at + 1 if at == wrong else at,))) for at, look in enumerate("abc"))
            self.assertIs(settles(doubts, ("try", 0, branches)), False)

    def test_a_tree_of_great_depth(self):
        tree = ("known", (0,))
        for at in range(5000):
            tree = ("try", at % 2, (("a", tree),))
        self.assertIs(settles((("a", "a"),), tree), True)
        self.assertIs(settles((("a", "b"),), tree), False)

    def test_all_small_trees(self):
        told = all_trees(1, 3, 2, "ab")
        for cells in product("ab", repeat=6):
            doubts = (cells[:2], cells[2:4], cells[4:])
            for tree in told:
                self.assertIs(settles(doubts, tree), required_settles(doubts, tree))


class InterfaceTest(unittest.TestCase):
    def test_arguments(self):
        self.assertEqual(str(inspect.signature(trees.least_tree)), "(doubts)")
        self.assertEqual(str(inspect.signature(trees.settles)), "(doubts, tree)")
