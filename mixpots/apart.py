"""Which sets a plan tells apart, which wares it leaves covered, and what can be left out of it."""

from mixpots.errors import NotTold
from mixpots.plans import answers_of, check_most, check_plan, has_ware_of, sets


def first_clash(plan, ordered):
    # Lists can't be keys of a dict, so the answers are kept as tuples.
    first_with = {}
    for members in ordered:
        told = tuple(answers_of(plan, members))
        if told in first_with:
            return (first_with[told], members)
        first_with[told] = members
    return None


def clash(wares, plan, most):
    check_plan(wares, plan)
    check_most(most)
    return first_clash(plan, sets(wares, most))


def is_covered(plan, ware, members):
    for mixture in plan:
        if ware in mixture and not has_ware_of(mixture, members):
            return False
    return True


def cover(wares, plan, most):
    check_plan(wares, plan)
    check_most(most)
    ordered = sets(wares, most)
    for ware in range(wares):
        for members in ordered:
            if ware not in members and is_covered(plan, ware, members):
                return (ware, members)
    return None


def thinned(wares, plan, most):
    check_plan(wares, plan)
    check_most(most)
    ordered = sets(wares, most)
    if first_clash(plan, ordered) is not None:
        raise NotTold("the plan does not tell the sets apart")
    left = [list(mixture) for mixture in plan]
    # Going from the last place down, only places gone by are left out, so the lower ones stay right.
    for place in range(len(plan) - 1, -1, -1):
        without = left[:place] + left[place + 1:]
        if first_clash(without, ordered) is None:
            left = without
    return left
