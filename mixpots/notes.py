"""Plans written as texts, and read again."""

from mixpots.errors import NoNote
from mixpots.plans import check_plan, check_wares, is_plan


def figures(mixture):
    return "".join([str(ware) for ware in mixture])


def shown(wares, plan):
    check_plan(wares, plan)
    return " ".join([figures(mixture) for mixture in plan])


# A sign that is no figure becomes a number below nought or above nine, which no plan holds.
def numbers(word):
    return [ord(sign) - ord("0") for sign in word]


def read(wares, text):
    check_wares(wares)
    # The empty text would be split into one empty mixture.
    if text == "":
        return []
    plan = [numbers(word) for word in text.split(" ")]
    if not is_plan(wares, plan):
        raise NoNote("not the text of a plan of the wares")
    return plan
