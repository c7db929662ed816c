"""Plans and sets of wares, and the answers that a plan gives to a set."""

from mixpots.errors import NoMost, NoPlan, NoSet, NoWares

WARES_LIMIT = 8
MIXTURES_LIMIT = 12
MOST_LIMIT = 3


def is_set(wares, members):
    # Starting one below the least ware lets one test refuse wares below nought as well.
    before = -1
    for ware in members:
        if ware <= before or ware >= wares:
            return False
        before = ware
    return True


def is_plan(wares, plan):
    if len(plan) > MIXTURES_LIMIT:
        return False
    for mixture in plan:
        if len(mixture) == 0 or not is_set(wares, mixture):
            return False
    return True


# The refused number is left out of the words: Python won't turn a very large one into a text.
def check_wares(wares):
    if wares < 1 or wares > WARES_LIMIT:
        raise NoWares(f"the number of wares is not from 1 to {WARES_LIMIT}")


# What makes a plan or a set hangs on the number of wares, so that number is refused first.
def check_plan(wares, plan):
    check_wares(wares)
    if not is_plan(wares, plan):
        raise NoPlan(f"not a list of at most {MIXTURES_LIMIT} rising mixtures of the wares")


def check_set(wares, members):
    if not is_set(wares, members):
        raise NoSet("not a rising list of the wares")


def check_most(most):
    if most < 0 or most > MOST_LIMIT:
        raise NoMost(f"the most is not from 0 to {MOST_LIMIT}")


def has_ware_of(mixture, members):
    for ware in mixture:
        if ware in members:
            return True
    return False


# A function by itself, so that what goes through all sets does not check the plan anew for each.
def answers_of(plan, members):
    return [has_ware_of(mixture, members) for mixture in plan]


def answers(wares, plan, spoilt):
    check_plan(wares, plan)
    check_set(wares, spoilt)
    return answers_of(plan, spoilt)


# Only greater wares are put behind a set, so each set comes once and an ordered list stays ordered.
def one_ware_more(wares, smaller):
    larger = []
    for members in smaller:
        first = members[-1] + 1 if len(members) > 0 else 0
        for ware in range(first, wares):
            larger.append(members + [ware])
    return larger


def sets(wares, most):
    check_wares(wares)
    check_most(most)
    layer = [[]]
    found = list(layer)
    for step in range(most):
        layer = one_ware_more(wares, layer)
        found.extend(layer)
    return found
