"""What the tests share: how a refusal is told, wrong values, many plans, and each point gone through by hand."""

import itertools

from mixpots import errors

NAMES = ["NoWares", "NoPlan", "NoSet", "NoMost", "NoAnswers", "NoFit", "NotTold", "NoNote"]
# The great numbers stand last: a program that took them for right would go on without end.
WRONG_WARES = [0, 9, 10, -1, -8, 100, 10**30, -(10**30), 10**5000, -(10**5000)]
WRONG_MOSTS = [-1, 4, -2, 5, 8, 9, -100, 100, 10**30, -(10**30), 10**5000, -(10**5000)]
# Each is wrong among four wares, as a set and as a mixture.
WRONG_LISTS = [
    [1, 1], [0, 0], [0, 1, 1], [0, 0, 1], [0, 2, 2, 3],
    [1, 0], [3, 2], [0, 2, 1], [1, 0, 2], [0, 3, 1, 2],
    [-1], [-1, 0], [-4], [0, -1], [-(10**30)], [-2, -1],
    [4], [0, 4], [0, 1, 2, 3, 4], [7], [8], [10**30], [10**5000],
]


def assert_refused(case, name, function, *arguments):
    """The call is refused with the class of this name, and with none of the others."""
    try:
        told = function(*arguments)
    except Exception as error:
        case.assertIsInstance(error, ValueError)
        case.assertIsInstance(error, errors.PotError)
        kinds = [other for other in NAMES if isinstance(error, getattr(errors, other))]
        case.assertEqual(kinds, [name], function.__name__)
    else:
        case.fail(f"{function.__name__} did not refuse with {name}, but told {told!r}")


def wrong_plans():
    """Plans that are wrong among four wares."""
    plans = [[[0]] * 13, [[0, 3] for each in range(14)], [[0]] * 40, [[]], [[0], []], [[], [0]]]
    for wrong in WRONG_LISTS:
        plans.extend([[list(wrong)], [list(wrong), [0, 3]], [[0, 3], list(wrong), [2]], [[0]] * 11 + [list(wrong)]])
    return plans


def subsets(wares):
    every = []
    for size in range(wares + 1):
        every.extend(list(each) for each in itertools.combinations(range(wares), size))
    return every


def all_answers(count):
    return [list(each) for each in itertools.product([False, True], repeat=count)]


def small_plans():
    """All plans of at most three mixtures of at most three wares: (wares, plan)."""
    for wares in (1, 2, 3):
        mixtures = subsets(wares)[1:]
        for count in range(4):
            for chosen in itertools.product(mixtures, repeat=count):
                yield wares, [list(mixture) for mixture in chosen]


def larger_plans(count):
    """Many unlike plans of 1 to 8 wares and up to 12 mixtures, the same at each run: (wares, plan)."""
    state = 1
    for each in range(count):
        numbers = []
        for place in range(15):
            state = (state * 6364136223846793005 + 1442695040888963407) % 2**64
            numbers.append(state >> 33)
        wares = 1 + numbers[0] % 8
        size = numbers[1] % 13
        # Thin mixtures tell more sets apart than full ones, so every other plan has thin ones.
        thin = numbers[2] % 2 == 1
        plan = []
        for number in numbers[3:3 + size]:
            chosen = number & (number >> 9) if thin else number
            mixture = [ware for ware in range(wares) if chosen >> ware & 1]
            plan.append(mixture or [number % wares])
        yield wares, plan


def telling_plans():
    """Plans of which many tell apart or are clear for a most of two or three: (wares, plan)."""
    for wares in range(1, 9):
        alone = [[ware] for ware in range(wares)]
        yield wares, alone
        yield wares, list(reversed(alone)) + [list(range(wares))]
        yield wares, [list(range(wares))] + alone + alone[:12 - wares - 1]
        yield wares, alone[1:] + [list(range(wares))]
        yield wares, alone[:-1]
        for ware in range(wares):
            others = [each for each in range(wares) if each != ware]
            if others:
                yield wares, alone[:ware] + [others] + alone[ware + 1:]
                yield wares, alone + [others, [ware], others][:12 - wares]
    for wares in (4, 5, 6):
        pairs = [list(pair) for pair in itertools.combinations(range(wares), 2)]
        yield wares, pairs[:12]
        yield wares, list(reversed(pairs))[:12]
    # The rows, columns and slants of nine fields, with one field taken out.
    lines = [[0, 1, 2], [3, 4, 5], [6, 7], [0, 3, 6], [1, 4, 7], [2, 5]]
    slants = [[0, 4], [1, 5, 6], [2, 3, 7], [0, 5, 7], [1, 3], [2, 4, 6]]
    yield 8, lines
    yield 8, lines + slants[:3]
    yield 8, lines + slants


def many_plans():
    for each in itertools.chain(small_plans(), larger_plans(400), telling_plans()):
        yield each


# What follows goes through all sets one by one, by the words of the document alone.

def expected_sets(wares, most):
    every = [[ware for ware in range(wares) if choice >> ware & 1] for choice in range(2**wares)]
    return sorted((each for each in every if len(each) <= most), key=lambda each: (len(each), each))


def expected_answers(plan, spoilt):
    return [not set(mixture).isdisjoint(spoilt) for mixture in plan]


def expected_fitting(wares, plan, most, told):
    return [each for each in expected_sets(wares, most) if expected_answers(plan, each) == told]


def expected_sorted_out(wares, plan, most, told):
    """The three lists, or None where no set fits."""
    found = expected_fitting(wares, plan, most, told)
    if not found:
        return None
    spoilt = set(range(wares)).intersection(*found)
    perhaps = set().union(*found)
    return sorted(spoilt), sorted(set(range(wares)) - perhaps), sorted(perhaps - spoilt)


def expected_plainly(wares, plan, told):
    surely_good = set()
    for mixture, answer in zip(plan, told):
        if not answer:
            surely_good.update(mixture)
    return sorted(set(range(wares)) - surely_good)


def expected_clash(wares, plan, most):
    every = expected_sets(wares, most)
    known = [expected_answers(plan, each) for each in every]
    places = range(len(every))
    pairs = [(second, first) for second in places for first in range(second) if known[first] == known[second]]
    if not pairs:
        return None
    second, first = min(pairs)
    return every[first], every[second]


def covers(plan, members, ware):
    return all(not set(mixture).isdisjoint(members) for mixture in plan if ware in mixture)


def expected_cover(wares, plan, most):
    found = []
    for ware in range(wares):
        for members in expected_sets(wares, most):
            if ware not in members and covers(plan, members, ware):
                found.append((ware, len(members), members))
    if not found:
        return None
    ware, size, members = min(found)
    return ware, members


def expected_thinned(wares, plan, most):
    """The plan that is left, or None where the plan does not tell apart."""
    if expected_clash(wares, plan, most) is not None:
        return None
    kept = dict(enumerate(plan))
    for place in sorted(kept, reverse=True):
        others = {key: mixture for key, mixture in kept.items() if key != place}
        if expected_clash(wares, list(others.values()), most) is None:
            kept = others
    return list(kept.values())
