"""Point 1 over the whole program: nothing handed in is changed or kept, what is told is the asker's own."""

import copy
import unittest

from mixpots.apart import clash, cover, thinned
from mixpots.notes import read, shown
from mixpots.plans import answers, sets
from mixpots.reading import fitting, plainly, sorted_out
from helper import telling_plans


def lists_in(value):
    """Every list in a value, itself among them, one that is there twice told twice."""
    found = [value] if isinstance(value, list) else []
    if isinstance(value, (list, tuple)):
        for each in value:
            found.extend(lists_in(each))
    return found


def shared_mixture_plan():
    one = [0, 1]
    two = [2]
    return [one, two, one, [0], two]


def all_calls():
    """Each function at plans where its answer is empty, short and long."""
    plans = [
        (1, []), (8, []), (1, [[0]]), (4, [[0, 2], [1, 3], [2]]), (3, [[0, 2], [1, 2]]), (3, shared_mixture_plan()),
        (2, [[0], [0]]), (5, [[0], [1], [2], [3], [4], [0, 1, 2, 3, 4]]), (8, [[ware] for ware in range(8)]),
    ]
    made = []
    for wares, plan in plans:
        for spoilt in ([], [0], list(range(wares))):
            made.append((answers, [wares, plan, spoilt]))
        for told in ([False] * len(plan), [True] * len(plan), answers(wares, plan, [wares - 1])):
            made.append((plainly, [wares, plan, told]))
            for most in range(4):
                made.append((fitting, [wares, plan, most, told]))
                if fitting(wares, plan, most, told):
                    made.append((sorted_out, [wares, plan, most, told]))
        for most in range(4):
            made.append((sets, [wares, most]))
            made.append((clash, [wares, plan, most]))
            made.append((cover, [wares, plan, most]))
            if clash(wares, plan, most) is None:
                made.append((thinned, [wares, plan, most]))
        made.append((shown, [wares, plan]))
        made.append((read, [wares, shown(wares, plan)]))
    return made


class WhatIsHandedIn(unittest.TestCase):
    def test_it_is_as_it_was_after_each_call(self):
        for function, arguments in all_calls():
            before = copy.deepcopy(arguments)
            inner = lists_in(arguments)
            function(*arguments)
            self.assertEqual(arguments, before, function.__name__)
            self.assertEqual([id(each) for each in lists_in(arguments)], [id(each) for each in inner])

    def test_it_is_not_kept(self):
        for function, shared in all_calls():
            # The calls share their plans, and what is handed in is cleared here.
            arguments = copy.deepcopy(shared)
            told = function(*arguments)
            right = copy.deepcopy(told)
            again = copy.deepcopy(arguments)
            for each in lists_in(arguments):
                each.clear()
            self.assertEqual(told, right, function.__name__)
            self.assertEqual(function(*again), right, function.__name__)

    def test_a_plan_that_was_changed_is_told_of_anew(self):
        plan = [[0], [1]]
        self.assertEqual(clash(3, plan, 2), ([], [2]))
        self.assertEqual(cover(3, plan, 2), (2, []))
        self.assertEqual(fitting(3, plan, 1, [False, True]), [[1]])
        plan.append([2])
        self.assertIsNone(clash(3, plan, 2))
        self.assertIsNone(cover(3, plan, 2))
        self.assertEqual(thinned(3, plan, 2), [[0], [1], [2]])
        self.assertEqual(shown(3, plan), "0 1 2")
        plan[1][0] = 2
        self.assertEqual(clash(3, plan, 2), ([], [1]))
        self.assertEqual(plainly(3, plan, [False, True, True]), [1, 2])
        self.assertEqual(shown(3, plan), "0 2 2")


class WhatIsTold(unittest.TestCase):
    def test_no_two_lists_are_one_and_none_was_handed_in(self):
        for function, arguments in all_calls():
            given = {id(each) for each in lists_in(arguments)}
            first = function(*arguments)
            second = function(*arguments)
            told = [id(each) for each in lists_in(first) + lists_in(second)]
            self.assertEqual(len(set(told)), len(told), function.__name__)
            self.assertEqual(given.intersection(told), set(), function.__name__)

    def test_a_plan_that_has_one_list_twice_is_thinned_to_lists_of_its_own(self):
        one = [0]
        for wares, plan in list(telling_plans()) + [(1, [one, one]), (2, [one, [0, 1], one])]:
            given = {id(each) for each in lists_in(plan)}
            for most in range(4):
                if clash(wares, plan, most) is None:
                    told = [id(each) for each in lists_in(thinned(wares, plan, most))]
                    self.assertEqual(len(set(told)), len(told))
                    self.assertEqual(given.intersection(told), set())

    def test_changing_it_changes_neither_what_was_handed_in_nor_what_is_told_next(self):
        for function, arguments in all_calls():
            before = copy.deepcopy(arguments)
            told = function(*arguments)
            right = copy.deepcopy(told)
            for each in lists_in(told):
                each.append("mine")
                each.reverse()
            self.assertEqual(arguments, before, function.__name__)
            self.assertEqual(function(*arguments), right, function.__name__)

    def test_changing_one_list_of_it_does_not_change_another(self):
        for function, arguments in all_calls():
            for place in range(len(lists_in(function(*arguments)))):
                told = function(*arguments)
                right = copy.deepcopy(told)
                lists_in(told)[place].append(9)
                lists_in(right)[place].append(9)
                self.assertEqual(told, right, function.__name__)


if __name__ == "__main__":
    unittest.main()
