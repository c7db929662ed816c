"""What answers tell of the wares."""

from mixpots.errors import NoAnswers, NoFit
from mixpots.plans import answers_of, check_most, check_plan, sets


def check_answers(plan, told):
    if len(told) != len(plan):
        raise NoAnswers("not one answer for each mixture of the plan")


def fitting(wares, plan, most, told):
    check_plan(wares, plan)
    check_most(most)
    check_answers(plan, told)
    return [members for members in sets(wares, most) if answers_of(plan, members) == told]


def how_many_have(ware, found):
    return len([members for members in found if ware in members])


def sorted_out(wares, plan, most, told):
    found = fitting(wares, plan, most, told)
    # With no set at all, each ware would be in all of them and in none.
    if len(found) == 0:
        raise NoFit("no set fits the answers")
    spoilt = []
    good = []
    unsure = []
    for ware in range(wares):
        count = how_many_have(ware, found)
        if count == len(found):
            spoilt.append(ware)
        elif count == 0:
            good.append(ware)
        else:
            unsure.append(ware)
    return (spoilt, good, unsure)


def in_spoilt_alone(ware, plan, told):
    for mixture, spoilt in zip(plan, told):
        if ware in mixture and not spoilt:
            return False
    return True


def plainly(wares, plan, told):
    check_plan(wares, plan)
    check_answers(plan, told)
    return [ware for ware in range(wares) if in_spoilt_alone(ware, plan, told)]
