"""How things move behind a call, and what becomes of forms meanwhile. Nothing is checked here.

Shares are a dict from the things to how much of its way to its goal each thing has gone.
"""

from calledmidway.forms import Form
from calledmidway.ratios import Ratio, as_ratio


def share_gone(wait, length):
    """Return which share of its way a thing has gone a time behind a call."""
    share = as_ratio(wait).over(length)
    return share if share.is_below(1) else Ratio(1)


def shares_behind(book, scene, wait):
    """Return the shares that are gone a time behind a call of the scene."""
    return {thing: share_gone(wait, book.length(scene, thing)) for thing in book.things()}


def place_by(book, scene, shares, place):
    """Return the place behind a call of the scene at a place when these shares are gone."""
    found = {}
    for thing in book.things():
        way = book.goal(scene, thing) - place[thing]
        found[thing] = place[thing] + way * shares[thing]
    return found


def place_behind(book, scene, wait, place):
    """Return the place a time behind a call of the scene at a place."""
    return place_by(book, scene, shares_behind(book, scene, wait), place)


def form_by(book, scene, shares, form):
    """Return the form whose value is that of the form behind a call of the scene when these shares are gone."""
    weights = {}
    number = form.number
    for thing in form.live():
        weight, share = form.weight(thing), shares[thing]
        weights[thing] = weight * (1 - share)
        number = number + weight * share * book.goal(scene, thing)
    return Form(weights, number)


def bends_of(book, scene, form):
    """Return the sorted list of the bends of a form in a scene."""
    return sorted({book.length(scene, thing) for thing in form.live()})


def pace_from(book, scene, since, form):
    """Return the form whose value is the pace of the form just behind a time behind a call of the scene."""
    weights = {}
    number = Ratio(0)
    for thing in form.live():
        length = book.length(scene, thing)
        if as_ratio(since).is_below(length):
            weight = form.weight(thing).over(length)
            weights[thing] = -weight
            number = number + weight * book.goal(scene, thing)
    return Form(weights, number)
