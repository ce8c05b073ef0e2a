"""Reducing: step by step until nothing steps, and along a log."""

from keeper.errors import Dry, NoStep
from keeper.places import at_place
from keeper.steps import first_step, rule_of, stepped


def normal(thing, fuel, book):
    here = thing
    log = []
    step = first_step(here, book)
    while step is not None:
        # Ahead of the step itself: what that would come to is not asked once the fuel is gone.
        if len(log) >= fuel:
            raise Dry("the fuel is gone and something still steps")
        here = stepped(here, step[0], book)
        log.append(step)
        step = first_step(here, book)
    return (here, log)


def walked(thing, log, book):
    here = thing
    for place, rule in log:
        if rule_of(at_place(here, place), book) != rule:
            raise NoStep("what stands at this place doesn't step by this rule")
        here = stepped(here, place, book)
    return here
