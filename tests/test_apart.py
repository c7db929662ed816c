import inspect
import unittest

from mixpots.apart import clash, cover, thinned
from mixpots.plans import answers
from mixpots.reading import plainly
from helper import (
    assert_refused, covers, expected_clash, expected_cover, expected_sets, expected_thinned, many_plans, subsets,
)

PLAN = [[0, 2], [1, 3], [2]]


def alone(wares):
    return [[ware] for ware in range(wares)]


class Clash(unittest.TestCase):
    def test_the_arguments_are_called_as_documented(self):
        self.assertEqual(list(inspect.signature(clash).parameters), ["wares", "plan", "most"])
        self.assertEqual(clash(wares=2, plan=[[0]], most=1), ([], [1]))

    def test_plans_that_tell_apart(self):
        self.assertIsNone(clash(3, [[0, 2], [1, 2]], 1))
        self.assertIsNone(clash(8, [[1, 3, 5, 7], [2, 3, 6, 7], [4, 5, 6, 7], [0]], 1))
        for wares in range(1, 9):
            for most in range(4):
                self.assertIsNone(clash(wares, alone(wares), most))

    def test_plans_that_do_not(self):
        self.assertEqual(clash(4, PLAN, 1), ([1], [3]))
        self.assertEqual(clash(3, [[0, 2], [1, 2]], 2), ([2], [0, 1]))
        self.assertEqual(clash(8, [[1, 3, 5, 7], [2, 3, 6, 7], [4, 5, 6, 7], [0]], 2), ([3], [1, 2]))
        self.assertEqual(clash(2, [[0, 1]], 1), ([0], [1]))

    def test_the_second_set_is_the_first_in_order_that_repeats_answers(self):
        # [2] repeats [1]; [4] repeats the set of no wares, but comes later.
        self.assertEqual(clash(5, [[0, 1, 2], [1, 2], [3]], 3), ([1], [2]))
        # [1] repeats [0]; so does [2], and [0, 1] and [0, 2] do.
        self.assertEqual(clash(4, [[0, 1, 2], [3]], 3), ([0], [1]))

    def test_a_ware_in_no_mixture_clashes_with_the_set_of_no_wares(self):
        self.assertEqual(clash(3, [[0], [1]], 1), ([], [2]))
        self.assertEqual(clash(1, [], 1), ([], [0]))
        self.assertEqual(clash(8, [], 3), ([], [0]))

    def test_mixtures_that_are_alike_tell_no_more(self):
        self.assertEqual(clash(2, [[0], [0], [0]], 1), ([], [1]))
        self.assertEqual(clash(3, [[0, 2], [1, 2]] * 6, 2), ([2], [0, 1]))
        self.assertIsNone(clash(2, [[0], [1], [0], [1]], 3))

    def test_a_most_of_nought_always_tells_apart(self):
        for wares in range(1, 9):
            for plan in ([], [[0]], [list(range(wares))], alone(wares)):
                self.assertIsNone(clash(wares, plan, 0))

    def test_sets_of_more_wares_than_the_most_do_not_clash(self):
        plan = [[0, 1], [0, 2], [1, 2], [3]]
        self.assertIsNone(clash(4, plan, 1))
        self.assertEqual(clash(4, plan, 2), ([0, 1], [0, 2]))
        self.assertEqual(clash(4, alone(4)[:3] + [[0, 1, 2, 3]], 3), ([0], [0, 3]))

    def test_many_plans_against_all_sets(self):
        for wares, plan in many_plans():
            for most in range(4):
                self.assertEqual(clash(wares, plan, most), expected_clash(wares, plan, most), (wares, plan, most))

    def test_a_tuple_of_two_lists_is_told(self):
        told = clash(8, [[0]], 3)
        self.assertIs(type(told), tuple)
        self.assertEqual([type(each) for each in told], [list, list])


class Cover(unittest.TestCase):
    def test_the_arguments_are_called_as_documented(self):
        self.assertEqual(list(inspect.signature(cover).parameters), ["wares", "plan", "most"])
        self.assertEqual(cover(wares=2, plan=[[0]], most=1), (1, []))

    def test_plans_that_are_clear(self):
        self.assertIsNone(cover(3, [[0, 1], [0, 2], [1, 2]], 1))
        for wares in range(1, 9):
            for most in range(4):
                self.assertIsNone(cover(wares, alone(wares), most))

    def test_plans_that_are_not(self):
        self.assertEqual(cover(4, PLAN, 1), (0, [2]))
        self.assertEqual(cover(3, [[0, 1], [0, 2], [1, 2]], 2), (0, [1, 2]))
        self.assertEqual(cover(3, [[0], [0, 1], [1, 2]], 1), (2, [1]))
        self.assertEqual(cover(4, [[0, 1], [0, 2], [0, 3], [1], [2], [3]], 3), (0, [1, 2, 3]))

    def test_the_least_ware_comes_ahead_of_the_fewer_wares_of_a_set(self):
        self.assertEqual(cover(4, [[0, 1], [0, 2], [1], [2]], 2), (0, [1, 2]))
        self.assertEqual(cover(4, [[0, 1], [0, 2], [1], [2]], 1), (3, []))

    def test_of_the_sets_the_first_in_order(self):
        self.assertEqual(cover(4, [[0, 2, 3], [1, 2], [1, 3]], 3), (0, [2]))
        self.assertEqual(cover(4, [[0, 1], [0, 2, 3], [1], [2], [3]], 3), (0, [1, 2]))
        self.assertEqual(cover(3, [[0], [1, 2]], 3), (1, [2]))

    def test_a_ware_is_covered_by_other_wares_alone(self):
        self.assertIsNone(cover(1, [[0]], 1))
        self.assertIsNone(cover(2, [[0], [0, 1], [1]], 3))

    def test_a_ware_in_no_mixture_is_covered_by_no_wares(self):
        self.assertEqual(cover(3, [[0], [1]], 3), (2, []))
        for most in range(4):
            self.assertEqual(cover(1, [], most), (0, []))
            self.assertEqual(cover(8, [], most), (0, []))
            self.assertEqual(cover(3, [[0], [2]], most), (1, []))

    def test_a_most_of_nought_covers_only_wares_in_no_mixture(self):
        self.assertIsNone(cover(4, PLAN, 0))
        self.assertIsNone(cover(8, [list(range(8))], 0))
        self.assertEqual(cover(5, PLAN, 0), (4, []))

    def test_mixtures_that_are_alike_clear_no_more(self):
        self.assertEqual(cover(2, [[0, 1], [0, 1], [1]], 1), (0, [1]))
        self.assertIsNone(cover(2, [[0], [1], [0], [1]], 1))

    def test_many_plans_against_all_sets(self):
        for wares, plan in many_plans():
            for most in range(4):
                self.assertEqual(cover(wares, plan, most), expected_cover(wares, plan, most), (wares, plan, most))

    def test_what_is_told_covers(self):
        for wares, plan in many_plans():
            told = cover(wares, plan, 3)
            if told is not None:
                ware, members = told
                self.assertNotIn(ware, members)
                self.assertTrue(covers(plan, members, ware))

    def test_a_tuple_of_a_whole_number_and_a_list_is_told(self):
        for told in (cover(4, PLAN, 1), cover(1, [], 0)):
            self.assertIs(type(told), tuple)
            self.assertEqual([type(each) for each in told], [int, list])


class ClearAndApart(unittest.TestCase):
    def test_clear_plans_tell_apart_and_are_read_plainly(self):
        seen = [0, 0, 0, 0]
        for wares, plan in many_plans():
            for most in range(4):
                if cover(wares, plan, most) is None:
                    seen[most] += 1
                    self.assertIsNone(clash(wares, plan, most))
                    for members in expected_sets(wares, most):
                        self.assertEqual(plainly(wares, plan, answers(wares, plan, members)), members)
        self.assertGreater(min(seen), 100)

    def test_plans_that_tell_apart_are_clear_for_one_less(self):
        seen = [0, 0, 0, 0]
        for wares, plan in many_plans():
            for most in (1, 2, 3):
                if clash(wares, plan, most) is None:
                    seen[most] += 1
                    self.assertIsNone(cover(wares, plan, most - 1))
        self.assertGreater(min(seen[1:]), 100)

    def test_a_plan_that_tells_apart_need_not_be_clear_for_the_most(self):
        self.assertIsNone(clash(3, [[0, 2], [1, 2]], 1))
        self.assertEqual(cover(3, [[0, 2], [1, 2]], 1), (0, [2]))

    def test_a_plan_that_tells_apart_does_so_with_a_mixture_more_and_for_a_lesser_most(self):
        seen = [0, 0, 0, 0]
        for wares, plan in many_plans():
            for most in range(4):
                if clash(wares, plan, most) is None:
                    seen[most] += 1
                    for lesser in range(most):
                        self.assertIsNone(clash(wares, plan, lesser))
                    if len(plan) < 12:
                        for mixture in subsets(wares)[1::7]:
                            place = len(mixture) % (len(plan) + 1)
                            self.assertIsNone(clash(wares, plan[:place] + [mixture] + plan[place:], most))
        self.assertGreater(min(seen), 100)


class Thinned(unittest.TestCase):
    def test_the_arguments_are_called_as_documented(self):
        self.assertEqual(list(inspect.signature(thinned).parameters), ["wares", "plan", "most"])
        self.assertEqual(thinned(wares=1, plan=[[0], [0]], most=1), [[0]])

    def test_nothing_can_be_left_out(self):
        self.assertEqual(thinned(3, [[0, 2], [1, 2]], 1), [[0, 2], [1, 2]])
        for wares in range(1, 9):
            for most in (2, 3):
                self.assertEqual(thinned(wares, alone(wares), most), alone(wares))

    def test_something_can_be_left_out(self):
        self.assertEqual(thinned(3, [[0, 1, 2], [0], [1], [2]], 2), [[0], [1], [2]])
        self.assertEqual(thinned(3, [[0], [1], [2], [0, 1, 2]], 2), [[0], [1], [2]])
        self.assertEqual(thinned(3, [[0, 2], [0], [1, 2], [1]], 1), [[0, 2], [1, 2]])

    def test_mixtures_are_left_out_from_the_last_one_on(self):
        # Any two of the three tell apart; going on from the first one would leave the last two.
        self.assertEqual(thinned(3, [[0, 1], [0, 2], [1, 2]], 1), [[0, 1], [0, 2]])
        self.assertEqual(thinned(3, [[1, 2], [0, 2], [0, 1]], 1), [[1, 2], [0, 2]])
        self.assertEqual(thinned(2, [[0], [0, 1], [1]], 1), [[0], [0, 1]])
        self.assertEqual(thinned(2, [[1], [0, 1], [0]], 1), [[1], [0, 1]])
        self.assertEqual(thinned(2, [[0], [1], [0, 1]], 1), [[0], [1]])

    def test_with_a_most_of_nought_all_can_be_left_out(self):
        for wares in (1, 8):
            for plan in ([], [[0]], alone(wares), [[0]] * 12):
                self.assertEqual(thinned(wares, plan, 0), [])

    def test_of_mixtures_that_are_alike_the_first_stays(self):
        self.assertEqual(thinned(2, [[0], [1], [0], [1]], 3), [[0], [1]])
        self.assertEqual(thinned(2, [[1], [0], [0], [1]], 3), [[1], [0]])
        self.assertEqual(thinned(1, [[0]] * 12, 3), [[0]])
        self.assertEqual(thinned(3, [[0, 2], [0, 2], [1, 2], [0, 2]], 1), [[0, 2], [1, 2]])

    def test_twelve_mixtures_of_eight_wares(self):
        plan = [[0, 1, 2, 3]] + alone(8) + [[0, 7], [4, 5], [6, 7]]
        self.assertEqual(thinned(8, plan, 3), alone(8))
        # For a most of one, ware 3 is told by the first mixture and by none of the others.
        self.assertEqual(thinned(8, plan, 1), [[0, 1, 2, 3], [0], [1], [2], [4], [5], [6], [7]])

    def test_plans_that_do_not_tell_apart_are_refused(self):
        for wares, plan, most in (
            (4, PLAN, 1), (1, [], 1), (8, [], 3), (3, [[0], [1]], 1), (2, [[0], [0]], 2), (3, [[0, 2], [1, 2]], 2),
            (8, alone(7), 1), (8, [list(range(8))] * 12, 1),
        ):
            self.assertIsNotNone(clash(wares, plan, most))
            assert_refused(self, "NotTold", thinned, wares, plan, most)

    def test_many_plans_against_leaving_out_one_by_one(self):
        counts = {"refused": 0, "nothing": 0, "something": 0, "all": 0}
        for wares, plan in many_plans():
            for most in range(4):
                right = expected_thinned(wares, plan, most)
                if right is None:
                    counts["refused"] += 1
                    assert_refused(self, "NotTold", thinned, wares, plan, most)
                    continue
                counts["nothing" if right == plan else "something" if right else "all"] += 1
                self.assertEqual(thinned(wares, plan, most), right, (wares, plan, most))
        self.assertGreater(min(counts.values()), 100)

    def test_no_mixture_that_is_left_can_be_left_out(self):
        for wares, plan in many_plans():
            for most in range(4):
                if clash(wares, plan, most) is None:
                    left = thinned(wares, plan, most)
                    self.assertIsNone(clash(wares, left, most))
                    for place in range(len(left)):
                        self.assertIsNotNone(clash(wares, left[:place] + left[place + 1:], most))
                    self.assertEqual(thinned(wares, left, most), left)

    def test_a_list_of_lists_is_told(self):
        told = thinned(2, [[0], [1], [0, 1]], 2)
        self.assertIs(type(told), list)
        self.assertEqual([type(each) for each in told], [list, list])


if __name__ == "__main__":
    unittest.main()
