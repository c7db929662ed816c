import copy
import inspect
import unittest

from mixpots.plans import answers
from helper import WRONG_LISTS, WRONG_WARES, assert_refused, expected_answers, subsets


class Answers(unittest.TestCase):
    def test_the_arguments_are_called_as_documented(self):
        self.assertEqual(list(inspect.signature(answers).parameters), ["wares", "plan", "spoilt"])
        self.assertEqual(answers(wares=2, plan=[[0], [1]], spoilt=[1]), [False, True])

    def test_ordinary_plans_and_sets(self):
        plan = [[0, 2], [1, 3], [2]]
        self.assertEqual(answers(4, plan, [0]), [True, False, False])
        self.assertEqual(answers(4, plan, [1]), [False, True, False])
        self.assertEqual(answers(4, plan, [2]), [True, False, True])
        self.assertEqual(answers(4, plan, [3]), [False, True, False])
        self.assertEqual(answers(4, plan, [0, 3]), [True, True, False])
        self.assertEqual(answers(4, plan, [2, 3]), [True, True, True])
        self.assertEqual(answers(5, plan, [4]), [False, False, False])

    def test_a_ware_in_common_counts_at_any_place_of_mixture_and_set(self):
        plan = [[0, 1, 2], [2, 3, 4], [4, 5, 6], [1, 3, 5]]
        self.assertEqual(answers(8, plan, [0, 7]), [True, False, False, False])
        self.assertEqual(answers(8, plan, [3, 7]), [False, True, False, True])
        self.assertEqual(answers(8, plan, [6, 7]), [False, False, True, False])
        self.assertEqual(answers(8, plan, [2, 5, 6]), [True, True, True, True])

    def test_every_set_against_every_mixture(self):
        for wares in (1, 2, 3, 5, 8):
            mixtures = subsets(wares)[1:]
            for spoilt in subsets(wares):
                for start in range(0, len(mixtures), 12):
                    plan = mixtures[start:start + 12]
                    self.assertEqual(answers(wares, plan, spoilt), expected_answers(plan, spoilt))

    def test_a_plan_of_no_mixtures(self):
        for wares in (1, 8):
            for spoilt in ([], [0], list(range(wares))):
                self.assertEqual(answers(wares, [], spoilt), [])

    def test_a_plan_of_twelve_mixtures(self):
        plan = [[0], [1], [2], [3], [4], [5], [6], [7], [0, 1], [2, 3], [4, 5], [6, 7]]
        self.assertEqual(answers(8, plan, [0, 7]), [True] + [False] * 6 + [True, True, False, False, True])
        self.assertEqual(answers(1, [[0]] * 12, [0]), [True] * 12)

    def test_mixtures_that_are_alike(self):
        plan = [[0, 1], [2], [0, 1], [2], [2]]
        self.assertEqual(answers(3, plan, [1]), [True, False, True, False, False])
        self.assertEqual(answers(3, plan, [2]), [False, True, False, True, True])
        one = [0, 1]
        self.assertEqual(answers(2, [one, one], [1]), [True, True])

    def test_the_set_of_no_wares_and_of_all_wares(self):
        for wares in range(1, 9):
            plan = [[ware] for ware in range(wares)] + [list(range(wares))]
            self.assertEqual(answers(wares, plan, []), [False] * len(plan))
            self.assertEqual(answers(wares, plan, list(range(wares))), [True] * len(plan))

    def test_a_set_may_have_more_wares_than_any_most(self):
        self.assertEqual(answers(8, [[0], [6], [7]], [0, 1, 2, 3, 4, 5, 6]), [True, True, False])

    def test_one_ware_and_eight_wares(self):
        self.assertEqual(answers(1, [[0]], []), [False])
        self.assertEqual(answers(1, [[0]], [0]), [True])
        self.assertEqual(answers(8, [[0, 1, 2, 3, 4, 5, 6, 7], [7], [0]], [7]), [True, True, False])

    def test_each_answer_is_true_or_false_itself(self):
        for spoilt in subsets(4):
            told = answers(4, [[0], [0, 1], [2, 3], [3]], spoilt)
            self.assertIs(type(told), list)
            for answer in told:
                self.assertIs(type(answer), bool)


class AnswersAreTheAskersOwn(unittest.TestCase):
    def test_what_is_handed_in_stays_as_it_was(self):
        for spoilt in subsets(4):
            plan = [[0, 2], [1, 3], [2], [2]]
            inner = list(plan)
            before = copy.deepcopy((plan, spoilt))
            answers(4, plan, spoilt)
            self.assertEqual((plan, spoilt), before)
            self.assertTrue(all(now is then for now, then in zip(plan, inner)))

    def test_what_is_refused_stays_as_it_was(self):
        for plan, spoilt in (([[1, 0]], [0]), ([[0], []], [0]), ([[0]] * 13, [0]), ([[0]], [1, 0])):
            before = copy.deepcopy((plan, spoilt))
            with self.assertRaises(ValueError):
                answers(2, plan, spoilt)
            self.assertEqual((plan, spoilt), before)

    def test_changing_what_was_told_changes_nothing_else(self):
        for plan in ([], [[0, 2], [1]]):
            spoilt = [1]
            before = copy.deepcopy((plan, spoilt))
            told = answers(3, plan, spoilt)
            right = list(told)
            told.append("mine")
            told.reverse()
            self.assertEqual((plan, spoilt), before)
            self.assertEqual(answers(3, plan, spoilt), right)

    def test_each_call_tells_a_list_of_its_own(self):
        for plan, spoilt in (([], []), ([], [0]), ([[0]], []), ([[0]], [0])):
            first = answers(1, plan, spoilt)
            second = answers(1, plan, spoilt)
            self.assertIsNot(first, second)
            for told in (first, second):
                self.assertIsNot(told, plan)
                self.assertIsNot(told, spoilt)

    def test_nothing_handed_in_is_kept(self):
        plan = [[0, 1], [2]]
        spoilt = [2]
        told = answers(3, plan, spoilt)
        plan[0].append(2)
        self.assertEqual(told, [False, True])
        self.assertEqual(answers(3, plan, spoilt), [True, True])
        spoilt[0] = 0
        self.assertEqual(answers(3, plan, spoilt), [True, False])
        plan.clear()
        self.assertEqual(answers(3, plan, spoilt), [])


class AnswersRefused(unittest.TestCase):
    def test_wrong_numbers_of_wares(self):
        for wares in WRONG_WARES:
            for plan, spoilt in (([], []), ([[0]], [0])):
                assert_refused(self, "NoWares", answers, wares, plan, spoilt)

    def test_plans_of_too_many_mixtures(self):
        for count in (13, 14, 40):
            assert_refused(self, "NoPlan", answers, 1, [[0]] * count, [])
            assert_refused(self, "NoPlan", answers, 8, [[0, 7] for each in range(count)], [7])

    def test_wrong_mixtures_in_the_first_a_middle_and_the_last_place(self):
        for which, wrong in enumerate(WRONG_LISTS + [[]]):
            for length in (1, 2, 3, 12):
                for place in sorted({0, length // 2, length - 1}):
                    plan = [[0, 3] for each in range(length)]
                    plan[place] = list(wrong)
                    with self.subTest(which=which, length=length, place=place):
                        assert_refused(self, "NoPlan", answers, 4, plan, [0])

    def test_wrong_sets(self):
        for wrong in WRONG_LISTS:
            for plan in ([], [[0, 3], [2]]):
                assert_refused(self, "NoSet", answers, 4, plan, list(wrong))

    def test_the_first_ware_beyond_for_each_number_of_wares(self):
        for wares in range(1, 9):
            self.assertEqual(answers(wares, [[wares - 1]], [wares - 1]), [True])
            assert_refused(self, "NoPlan", answers, wares, [[wares]], [])
            assert_refused(self, "NoSet", answers, wares, [], [wares])
            assert_refused(self, "NoPlan", answers, wares, [[-1]], [])
            assert_refused(self, "NoSet", answers, wares, [], [-1])

    def test_wares_are_refused_ahead_of_plan_and_set(self):
        for wares in WRONG_WARES:
            for plan in ([[]], [[1, 0]], [[-1]], [[0]] * 13, [[9]]):
                assert_refused(self, "NoWares", answers, wares, plan, [])
                assert_refused(self, "NoWares", answers, wares, plan, [1, 0])
            assert_refused(self, "NoWares", answers, wares, [[0]], [1, 0])
            assert_refused(self, "NoWares", answers, wares, [], [-1])

    def test_the_plan_is_refused_ahead_of_the_set(self):
        for wrong in WRONG_LISTS:
            assert_refused(self, "NoPlan", answers, 4, [[0], list(wrong)], list(wrong))
            assert_refused(self, "NoPlan", answers, 4, [[0]] * 13, list(wrong))
            assert_refused(self, "NoPlan", answers, 4, [[0], []], list(wrong))

    def test_nothing_is_refused_at_the_edges(self):
        for wares in (1, 8):
            everything = list(range(wares))
            for count in (0, 1, 11, 12):
                for mixture in ([0], [wares - 1], everything):
                    for spoilt in ([], [0], [wares - 1], everything):
                        plan = [list(mixture) for each in range(count)]
                        self.assertEqual(answers(wares, plan, spoilt), expected_answers(plan, spoilt))


if __name__ == "__main__":
    unittest.main()
