import inspect
import unittest

from mixpots.plans import answers
from mixpots.reading import fitting, plainly, sorted_out
from helper import (
    all_answers, assert_refused, expected_fitting, expected_plainly, expected_sets, expected_sorted_out, many_plans,
    small_plans, telling_plans,
)

PLAN = [[0, 2], [1, 3], [2]]


def told_to_try(wares, plan, most):
    """Answers that some set has, of few wares or of many, and answers that perhaps none has."""
    tried = [answers(wares, plan, each) for each in expected_sets(wares, most)[::5]]
    tried.append(answers(wares, plan, list(range(wares))))
    tried.append([False] * len(plan))
    tried.append([True] * len(plan))
    tried.append([place % 2 == 0 for place in range(len(plan))])
    tried.append([place % 3 == 2 for place in range(len(plan))])
    return tried


class Fitting(unittest.TestCase):
    def test_the_arguments_are_called_as_documented(self):
        self.assertEqual(list(inspect.signature(fitting).parameters), ["wares", "plan", "most", "told"])
        self.assertEqual(fitting(wares=2, plan=[[0], [1]], most=1, told=[False, True]), [[1]])

    def test_just_one_set_fits(self):
        self.assertEqual(fitting(4, PLAN, 1, [True, False, False]), [[0]])
        self.assertEqual(fitting(4, PLAN, 1, [True, False, True]), [[2]])
        self.assertEqual(fitting(4, PLAN, 3, [False, False, False]), [[]])

    def test_more_than_one_set_fits(self):
        self.assertEqual(fitting(4, PLAN, 1, [False, True, False]), [[1], [3]])
        self.assertEqual(fitting(4, PLAN, 2, [False, True, False]), [[1], [3], [1, 3]])
        self.assertEqual(fitting(4, PLAN, 2, [True, True, True]), [[1, 2], [2, 3]])
        self.assertEqual(fitting(4, PLAN, 3, [True, True, True]), [[1, 2], [2, 3], [0, 1, 2], [0, 2, 3], [1, 2, 3]])

    def test_the_fewest_wares_come_first(self):
        self.assertEqual(fitting(3, [[0, 2], [1, 2]], 3, [True, True]), [[2], [0, 1], [0, 2], [1, 2], [0, 1, 2]])

    def test_no_set_fits(self):
        self.assertEqual(fitting(4, PLAN, 3, [False, False, True]), [])
        self.assertEqual(fitting(4, PLAN, 0, [True, False, False]), [])
        self.assertEqual(fitting(4, PLAN, 1, [True, True, False]), [])
        self.assertEqual(fitting(2, [[0], [0]], 2, [True, False]), [])

    def test_sets_of_more_wares_than_the_most_are_not_reckoned_with(self):
        plan = [[ware] for ware in range(8)]
        told = [True, True, True, True, False, False, False, False]
        self.assertEqual(fitting(8, plan, 3, told), [])
        self.assertEqual(fitting(8, plan, 3, [False] * 5 + [True] * 3), [[5, 6, 7]])
        self.assertEqual(fitting(8, plan, 2, [False] * 5 + [True] * 3), [])

    def test_a_plan_of_no_mixtures_fits_every_set(self):
        for wares in range(1, 9):
            for most in range(4):
                self.assertEqual(fitting(wares, [], most, []), expected_sets(wares, most))

    def test_a_most_of_nought(self):
        self.assertEqual(fitting(4, PLAN, 0, [False, False, False]), [[]])
        self.assertEqual(fitting(1, [], 0, []), [[]])

    def test_a_ware_that_is_in_no_mixture(self):
        self.assertEqual(fitting(3, [[0], [1]], 2, [False, True]), [[1], [1, 2]])
        self.assertEqual(fitting(3, [[0], [1]], 2, [False, False]), [[], [2]])

    def test_all_answers_to_small_plans(self):
        for wares, plan in small_plans():
            for most in range(4):
                for told in all_answers(len(plan)):
                    self.assertEqual(fitting(wares, plan, most, told), expected_fitting(wares, plan, most, told))

    def test_many_plans_against_all_sets(self):
        counts = {"none": 0, "one": 0, "more": 0}
        for wares, plan in many_plans():
            for most in range(4):
                for told in told_to_try(wares, plan, most):
                    found = fitting(wares, plan, most, told)
                    self.assertEqual(found, expected_fitting(wares, plan, most, told))
                    counts["none" if not found else "one" if len(found) == 1 else "more"] += 1
        self.assertGreater(min(counts.values()), 1000)

    def test_a_list_of_lists_of_whole_numbers_is_told(self):
        told = fitting(4, PLAN, 3, [True, True, True])
        self.assertIs(type(told), list)
        for members in told:
            self.assertIs(type(members), list)
            self.assertTrue(all(type(ware) is int for ware in members))


class SortedOut(unittest.TestCase):
    def test_the_arguments_are_called_as_documented(self):
        self.assertEqual(list(inspect.signature(sorted_out).parameters), ["wares", "plan", "most", "told"])
        self.assertEqual(sorted_out(wares=2, plan=[[0], [1]], most=1, told=[False, True]), ([1], [0], []))

    def test_just_one_set_fits_and_nothing_is_open(self):
        self.assertEqual(sorted_out(4, PLAN, 1, [True, False, False]), ([0], [1, 2, 3], []))
        self.assertEqual(sorted_out(4, PLAN, 3, [False, False, False]), ([], [0, 1, 2, 3], []))
        self.assertEqual(sorted_out(4, [[0], [1], [2], [3]], 3, [True] * 3 + [False]), ([0, 1, 2], [3], []))

    def test_more_than_one_set_fits(self):
        self.assertEqual(sorted_out(4, PLAN, 1, [False, True, False]), ([], [0, 2], [1, 3]))
        self.assertEqual(sorted_out(4, PLAN, 2, [True, True, True]), ([2], [0], [1, 3]))
        self.assertEqual(sorted_out(4, PLAN, 3, [True, True, True]), ([2], [], [0, 1, 3]))

    def test_the_most_tells_more_than_the_mixtures_alone(self):
        self.assertEqual(sorted_out(3, [[0, 2], [1, 2]], 1, [True, True]), ([2], [0, 1], []))
        self.assertEqual(sorted_out(3, [[0, 2], [1, 2]], 2, [True, True]), ([], [], [0, 1, 2]))

    def test_a_plan_of_no_mixtures(self):
        for wares in range(1, 9):
            everything = list(range(wares))
            self.assertEqual(sorted_out(wares, [], 0, []), ([], everything, []))
            for most in (1, 2, 3):
                self.assertEqual(sorted_out(wares, [], most, []), ([], [], everything))

    def test_a_ware_that_is_in_no_mixture(self):
        self.assertEqual(sorted_out(3, [[0], [1]], 1, [False, True]), ([1], [0, 2], []))
        self.assertEqual(sorted_out(3, [[0], [1]], 2, [False, True]), ([1], [0], [2]))

    def test_each_list_rises(self):
        plan = [[0, 7], [1, 6], [2, 5]]
        self.assertEqual(sorted_out(8, plan, 3, [True, True, True]), ([], [3, 4], [0, 1, 2, 5, 6, 7]))
        self.assertEqual(sorted_out(8, [[7], [5], [6]], 3, [True, True, True]), ([5, 6, 7], [0, 1, 2, 3, 4], []))

    def test_answers_that_no_set_fits_are_refused(self):
        for wares, plan, most, told in (
            (4, PLAN, 3, [False, False, True]), (4, PLAN, 0, [True, False, False]), (4, PLAN, 1, [True, True, False]),
            (2, [[0], [0]], 2, [True, False]), (1, [[0], [0]], 3, [False, True]), (1, [[0]], 0, [True]),
            (8, [[ware] for ware in range(8)], 3, [True] * 4 + [False] * 4),
        ):
            self.assertEqual(fitting(wares, plan, most, told), [])
            assert_refused(self, "NoFit", sorted_out, wares, plan, most, told)

    def check(self, wares, plan, most, told):
        right = expected_sorted_out(wares, plan, most, told)
        if right is None:
            assert_refused(self, "NoFit", sorted_out, wares, plan, most, told)
        else:
            self.assertEqual(sorted_out(wares, plan, most, told), right)

    def test_all_answers_to_small_plans(self):
        for wares, plan in small_plans():
            for most in range(4):
                for told in all_answers(len(plan)):
                    self.check(wares, plan, most, told)

    def test_many_plans_against_all_sets(self):
        for wares, plan in many_plans():
            for most in range(4):
                for told in told_to_try(wares, plan, most):
                    self.check(wares, plan, most, told)

    def test_a_tuple_of_three_lists_of_whole_numbers_is_told(self):
        for told in ([True, True, True], [False, False, False]):
            found = sorted_out(4, PLAN, 3, told)
            self.assertIs(type(found), tuple)
            self.assertEqual([type(each) for each in found], [list, list, list])
            self.assertTrue(all(type(ware) is int for each in found for ware in each))


class Plainly(unittest.TestCase):
    def test_the_arguments_are_called_as_documented(self):
        self.assertEqual(list(inspect.signature(plainly).parameters), ["wares", "plan", "told"])
        self.assertEqual(plainly(wares=2, plan=[[0], [1]], told=[False, True]), [1])

    def test_the_wares_all_of_whose_mixtures_are_spoilt(self):
        self.assertEqual(plainly(4, PLAN, [True, False, False]), [0])
        self.assertEqual(plainly(4, PLAN, [True, False, True]), [0, 2])
        self.assertEqual(plainly(4, PLAN, [False, True, False]), [1, 3])
        self.assertEqual(plainly(4, PLAN, [True, True, True]), [0, 1, 2, 3])
        self.assertEqual(plainly(4, PLAN, [False, False, False]), [])

    def test_answers_that_no_set_fits_are_read_too(self):
        self.assertEqual(plainly(4, PLAN, [False, False, True]), [])
        self.assertEqual(plainly(2, [[0], [0], [1]], [True, False, True]), [1])

    def test_more_wares_than_any_most_may_be_told(self):
        self.assertEqual(plainly(8, [[0, 1, 2, 3, 4, 5, 6, 7], [0]], [True, False]), [1, 2, 3, 4, 5, 6, 7])

    def test_a_ware_that_is_in_no_mixture(self):
        self.assertEqual(plainly(3, [[0], [1]], [False, True]), [1, 2])
        self.assertEqual(plainly(3, [[0], [1]], [False, False]), [2])

    def test_a_plan_of_no_mixtures(self):
        for wares in range(1, 9):
            self.assertEqual(plainly(wares, [], []), list(range(wares)))

    def test_all_answers_to_small_plans(self):
        for wares, plan in small_plans():
            for told in all_answers(len(plan)):
                self.assertEqual(plainly(wares, plan, told), expected_plainly(wares, plan, told))

    def test_many_plans(self):
        for wares, plan in many_plans():
            for told in told_to_try(wares, plan, 3):
                self.assertEqual(plainly(wares, plan, told), expected_plainly(wares, plan, told))

    def test_no_spoilt_ware_is_missed(self):
        for wares, plan in telling_plans():
            for members in expected_sets(wares, 3):
                found = plainly(wares, plan, answers(wares, plan, members))
                self.assertEqual([ware for ware in members if ware not in found], [])

    def test_a_list_of_whole_numbers_is_told(self):
        for wares, plan, told in ((3, [[0], [1]], [False, True]), (3, [], []), (1, [[0]], [False])):
            found = plainly(wares, plan, told)
            self.assertIs(type(found), list)
            self.assertTrue(all(type(ware) is int for ware in found))


if __name__ == "__main__":
    unittest.main()
