"""The refusals of the functions that take a plan: which, in which order, and nothing refused at the edges."""

import copy
import unittest

from mixpots.apart import clash, cover, thinned
from mixpots.notes import shown
from mixpots.reading import fitting, plainly, sorted_out
from helper import (
    WRONG_MOSTS, WRONG_WARES, assert_refused, expected_clash, expected_cover, expected_fitting, expected_plainly,
    expected_sorted_out, expected_thinned, wrong_plans,
)

TAKE_ANSWERS = [fitting, sorted_out]
TAKE_A_MOST = [clash, cover, thinned]
PLAN = [[0, 2], [1, 3], [2]]
WRONG_ANSWERS = [[], [True], [False, True], [False] * 4, [True] * 4, [True] * 12, [False] * 13, [True] * 40]


def calls(wares, plan, most, told):
    """Each function with its arguments out of these."""
    made = [(function, (wares, plan, most, told)) for function in TAKE_ANSWERS]
    made.append((plainly, (wares, plan, told)))
    made.extend((function, (wares, plan, most)) for function in TAKE_A_MOST)
    made.append((shown, (wares, plan)))
    return made


class OneWrongValue(unittest.TestCase):
    def test_wrong_numbers_of_wares(self):
        for wares in WRONG_WARES:
            for plan in ([], [[0]]):
                for function, arguments in calls(wares, plan, 1, [False] * len(plan)):
                    assert_refused(self, "NoWares", function, *arguments)

    def test_wrong_plans(self):
        for plan in wrong_plans():
            for most in (0, 3):
                for function, arguments in calls(4, plan, most, [False] * len(plan)):
                    assert_refused(self, "NoPlan", function, *arguments)

    def test_the_first_ware_beyond_for_each_number_of_wares(self):
        for wares in range(1, 9):
            for plan in ([[wares]], [[0], [wares]], [[-1]], [[0, wares]]):
                for function, arguments in calls(wares, plan, 1, [False] * len(plan)):
                    assert_refused(self, "NoPlan", function, *arguments)

    def test_wrong_mosts(self):
        for most in WRONG_MOSTS:
            for plan in ([], [[0], [1], [2], [3]]):
                for function in TAKE_ANSWERS:
                    assert_refused(self, "NoMost", function, 4, plan, most, [False] * len(plan))
                for function in TAKE_A_MOST:
                    assert_refused(self, "NoMost", function, 4, plan, most)

    def test_answers_of_another_length(self):
        for told in WRONG_ANSWERS:
            for most in range(4):
                for function in TAKE_ANSWERS:
                    assert_refused(self, "NoAnswers", function, 4, PLAN, most, told)
            assert_refused(self, "NoAnswers", plainly, 4, PLAN, told)

    def test_answers_to_plans_of_no_and_of_twelve_mixtures(self):
        for plan in ([], [[0]] * 12):
            for length in (0, 1, 11, 12, 13):
                if length != len(plan):
                    for function in TAKE_ANSWERS:
                        assert_refused(self, "NoAnswers", function, 1, plan, 1, [True] * length)
                    assert_refused(self, "NoAnswers", plainly, 1, plan, [True] * length)


class SeveralWrongValues(unittest.TestCase):
    def test_wares_go_ahead_of_all_else(self):
        for wares in WRONG_WARES:
            for plan in ([[]], [[1, 0]], [[-1]], [[0]] * 13, [[9]], [[0]]):
                for most in (-1, 1, 4, 10**5000):
                    for told in ([], [True], [True] * 5):
                        for function, arguments in calls(wares, plan, most, told):
                            assert_refused(self, "NoWares", function, *arguments)

    def test_the_plan_goes_ahead_of_the_most_and_the_answers(self):
        for plan in wrong_plans():
            for most in (-1, 1, 4, 10**5000):
                for told in ([True] * len(plan), [True] * (len(plan) + 1), []):
                    for function, arguments in calls(4, plan, most, told):
                        assert_refused(self, "NoPlan", function, *arguments)

    def test_the_most_goes_ahead_of_the_answers(self):
        for most in WRONG_MOSTS:
            for told in WRONG_ANSWERS:
                for function in TAKE_ANSWERS:
                    assert_refused(self, "NoMost", function, 4, PLAN, most, told)

    def test_the_most_goes_ahead_of_not_told_and_no_fit(self):
        for most in WRONG_MOSTS:
            assert_refused(self, "NoMost", thinned, 4, PLAN, most)
            assert_refused(self, "NoMost", thinned, 4, [], most)
            assert_refused(self, "NoMost", sorted_out, 4, PLAN, most, [False, False, True])

    def test_the_length_of_the_answers_goes_ahead_of_no_fit(self):
        for told in ([False, False, True, True], [False, False, True, False], [True]):
            assert_refused(self, "NoAnswers", sorted_out, 4, PLAN, 0, told)
        assert_refused(self, "NoFit", sorted_out, 4, PLAN, 3, [False, False, True])

    def test_the_plan_goes_ahead_of_not_told_and_no_fit(self):
        assert_refused(self, "NoPlan", thinned, 4, [[0], [0, 0]], 3)
        assert_refused(self, "NoWares", thinned, 9, [], 3)
        assert_refused(self, "NoPlan", sorted_out, 4, [[0], []], 3, [False, True])
        assert_refused(self, "NoWares", sorted_out, 0, [[0], [0]], 3, [False, True])


class WhatIsRefusedStaysAsItWas(unittest.TestCase):
    def test_each_refusal(self):
        for wares, plan, most, told in (
            (9, [[0]], 1, [True]), (4, [[1, 0], [0, 0]], 1, [True, False]), (4, [[0]] * 13, 1, [True] * 13),
            (4, [[0], [1]], 4, [True, False]), (4, [[0], [1]], 1, [True]), (1, [[0], [0]], 1, [True, False]),
            (2, [[0], [0]], 1, [True, True]),
        ):
            for function, arguments in calls(wares, plan, most, told):
                before = copy.deepcopy(arguments)
                try:
                    function(*arguments)
                except ValueError:
                    pass
                self.assertEqual(arguments, before)


class NothingIsRefusedAtTheEdges(unittest.TestCase):
    def edges(self):
        for wares in (1, 8):
            everything = list(range(wares))
            for count in (0, 1, 11, 12):
                for mixture in ([0], [wares - 1], everything):
                    yield wares, [list(mixture) for each in range(count)]
            yield wares, ([[ware] for ware in everything] + [everything] * 12)[:12]

    def test_answers_read_at_the_edges(self):
        for wares, plan in self.edges():
            for answer in (False, True):
                told = [answer] * len(plan)
                self.assertEqual(plainly(wares, plan, told), expected_plainly(wares, plan, told))
                for most in (0, 3):
                    self.assertEqual(fitting(wares, plan, most, told), expected_fitting(wares, plan, most, told))
                    right = expected_sorted_out(wares, plan, most, told)
                    if right is not None:
                        self.assertEqual(sorted_out(wares, plan, most, told), right)

    def test_plans_at_the_edges(self):
        for wares, plan in self.edges():
            self.assertEqual(shown(wares, plan), " ".join("".join(map(str, mixture)) for mixture in plan))
            for most in (0, 3):
                self.assertEqual(clash(wares, plan, most), expected_clash(wares, plan, most))
                self.assertEqual(cover(wares, plan, most), expected_cover(wares, plan, most))
                right = expected_thinned(wares, plan, most)
                if right is not None:
                    self.assertEqual(thinned(wares, plan, most), right)


if __name__ == "__main__":
    unittest.main()
