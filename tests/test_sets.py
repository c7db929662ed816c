import inspect
import unittest

from mixpots.plans import sets
from helper import WRONG_MOSTS, WRONG_WARES, assert_refused, expected_sets


class Sets(unittest.TestCase):
    def test_the_arguments_are_called_as_documented(self):
        self.assertEqual(list(inspect.signature(sets).parameters), ["wares", "most"])
        self.assertEqual(sets(wares=1, most=1), [[], [0]])

    def test_sets_written_out(self):
        self.assertEqual(sets(4, 0), [[]])
        self.assertEqual(sets(3, 1), [[], [0], [1], [2]])
        self.assertEqual(
            sets(4, 2),
            [[], [0], [1], [2], [3], [0, 1], [0, 2], [0, 3], [1, 2], [1, 3], [2, 3]],
        )
        self.assertEqual(
            sets(4, 3)[11:],
            [[0, 1, 2], [0, 1, 3], [0, 2, 3], [1, 2, 3]],
        )

    def test_all_sets_once_and_in_order(self):
        for wares in range(1, 9):
            for most in range(4):
                with self.subTest(wares=wares, most=most):
                    self.assertEqual(sets(wares, most), expected_sets(wares, most))

    def test_how_many_sets_of_eight_wares(self):
        self.assertEqual([len(sets(8, most)) for most in range(4)], [1, 9, 37, 93])

    def test_a_most_that_is_more_than_the_wares(self):
        self.assertEqual(sets(1, 2), [[], [0]])
        self.assertEqual(sets(1, 3), [[], [0]])
        self.assertEqual(sets(2, 3), [[], [0], [1], [0, 1]])

    def test_lists_of_whole_numbers_are_told(self):
        told = sets(8, 3)
        self.assertIs(type(told), list)
        for each in told:
            self.assertIs(type(each), list)
            for ware in each:
                self.assertIs(type(ware), int)


class SetsAreTheAskersOwn(unittest.TestCase):
    def test_no_two_lists_are_one(self):
        for wares in range(1, 9):
            for most in range(4):
                first, second = sets(wares, most), sets(wares, most)
                lists = [first, second] + first + second
                self.assertEqual(len({id(each) for each in lists}), len(lists))

    def test_changing_what_was_told_does_not_change_the_next(self):
        for wares in range(1, 9):
            for most in range(4):
                told = sets(wares, most)
                for each in told:
                    each.append("mine")
                    each.reverse()
                told.pop()
                told.append("mine")
                self.assertEqual(sets(wares, most), expected_sets(wares, most))

    def test_changing_one_set_does_not_change_another(self):
        for place in range(15):
            told, right = sets(4, 3), expected_sets(4, 3)
            told[place].append(9)
            right[place].append(9)
            self.assertEqual(told, right)


class SetsRefused(unittest.TestCase):
    def test_wrong_numbers_of_wares(self):
        for wares in WRONG_WARES:
            for most in range(4):
                assert_refused(self, "NoWares", sets, wares, most)

    def test_wrong_mosts(self):
        for most in WRONG_MOSTS:
            for wares in range(1, 9):
                assert_refused(self, "NoMost", sets, wares, most)

    def test_wares_are_refused_ahead_of_the_most(self):
        for wares in WRONG_WARES:
            for most in WRONG_MOSTS:
                assert_refused(self, "NoWares", sets, wares, most)

    def test_nothing_is_refused_at_the_edges(self):
        self.assertEqual(sets(1, 0), [[]])
        self.assertEqual(sets(1, 3), [[], [0]])
        self.assertEqual(sets(8, 0), [[]])
        self.assertEqual(sets(8, 3)[-1], [5, 6, 7])


if __name__ == "__main__":
    unittest.main()
