"""What the tests of refusals share."""

from mixpots import errors

NAMES = ["NoWares", "NoPlan", "NoSet", "NoMost", "NoAnswers", "NoFit", "NotTold", "NoNote"]


def assert_refused(case, name, function, *arguments):
    """The call is refused with the class of this name, and with none of the others."""
    try:
        told = function(*arguments)
    except Exception as error:
        case.assertIsInstance(error, ValueError)
        case.assertIsInstance(error, errors.PotError)
        kinds = [other for other in NAMES if isinstance(error, getattr(errors, other))]
        case.assertEqual(kinds, [name])
    else:
        case.fail(f"not refused with {name}, but told {told!r}")
