"""Legs: the calls that were made so far, each a tuple of its scene, its wait, and the place and moment it is made at.

Legs are kept in tuples, and neither these nor the places in them are ever changed.
"""

from calledmidway.checks import is_time
from calledmidway.errors import InvalidCalls, NoArrow, NotAllowed, TooEarly
from calledmidway.motions import place_behind
from calledmidway.parts import is_list, is_one_of, is_pair
from calledmidway.ratios import Ratio, as_ratio


def is_call(book, value):
    """Tell whether any value is a tuple of a scene and a time."""
    if not is_pair(value):
        return False
    scene, wait = value
    return is_one_of(book.scenes(), scene) and is_time(wait)


def check_calls(book, calls):
    """InvalidCalls unless this is a list of calls."""
    if not is_list(calls):
        raise InvalidCalls(None)
    for position, value in enumerate(calls):
        if not is_call(book, value):
            raise InvalidCalls(position)


def scene_now(book, legs):
    """Return the scene that is on behind the legs."""
    if len(legs) == 0:
        return book.first
    scene, _, _, _ = legs[-1]
    return scene


def place_now(book, legs):
    """Return the place behind the legs."""
    if len(legs) == 0:
        return book.goals(book.first)
    scene, wait, place, _ = legs[-1]
    return place_behind(book, scene, wait, place)


def moment_now(legs):
    """Return the moment behind the legs."""
    if len(legs) == 0:
        return Ratio(0)
    _, wait, _, moment = legs[-1]
    return moment + wait


def refusal(book, legs, scene):
    """Return the error that tells why a scene cannot be called behind the legs, or None."""
    one = scene_now(book, legs)
    if (one, scene) not in book:
        return NoArrow(one, scene)
    # At the beginning the first scene is on without a call, and can be left at once.
    if len(legs) > 0 and one in book.resting:
        _, wait, _, _ = legs[-1]
        if wait.is_below(book.longest(one)):
            return TooEarly(one)
    return None


def followed(book, legs, scene, wait):
    """Return the legs with a call more; NotAllowed with their number, if it is not allowed."""
    why = refusal(book, legs, scene)
    if why is not None:
        raise NotAllowed(len(legs)) from why
    return (*legs, (scene, as_ratio(wait), place_now(book, legs), moment_now(legs)))


def legs_of(book, calls):
    """Return the legs of a list of calls."""
    check_calls(book, calls)
    legs = ()
    for scene, wait in calls:
        legs = followed(book, legs, scene, wait)
    return legs


def legs_until(legs, time):
    """Return the legs that were begun by a time, the last one with what has passed since as its wait."""
    begun = [leg for leg in legs if not time.is_below(leg[3])]
    if len(begun) == 0:
        return ()
    scene, _, place, moment = begun[-1]
    return (*begun[:-1], (scene, time - moment, place, moment))


def calls_of(legs):
    """Return the list of the calls of the legs."""
    return [(scene, wait) for scene, wait, _, _ in legs]
