"""What each test of a refusal asks."""

import inspect

from keeper import errors

CLASSES = tuple(
    found for name, found in sorted(vars(errors).items())
    if inspect.isclass(found) and found is not errors.KeeperError
)


def refusal_of(function, values):
    try:
        function(*values)
    except ValueError as refusal:
        return refusal
    return None


def takes(taker, refusal):
    try:
        raise refusal
    except taker:
        return True
    except ValueError:
        return False


def assert_refused(case, wanted, function, *values):
    """Refused by its own class, by KeeperError and by ValueError, and by no other one's."""
    refusal = refusal_of(function, values)
    case.assertIsNotNone(refusal, (function, values))
    takers = [taker for taker in CLASSES + (errors.KeeperError, ValueError) if takes(taker, refusal)]
    case.assertEqual(takers, [wanted, errors.KeeperError, ValueError], (function, values))
