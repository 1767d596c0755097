"""How a refusal is looked at: by its own class, beneath the common ones, and none of the others."""

from fencefield.errors import FenceError, NoFence, NoTurning, TooWide


def assert_refused(case, refusal, ask):
    with case.assertRaises(refusal) as caught:
        ask()
    case.assertIsInstance(caught.exception, FenceError)
    case.assertIsInstance(caught.exception, ValueError)
    for other in (NoFence, NoTurning, TooWide):
        if other is not refusal:
            case.assertNotIsInstance(caught.exception, other)
