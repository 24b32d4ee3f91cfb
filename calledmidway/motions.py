"""How things move behind a call, and what becomes of forms meanwhile. Nothing is checked here."""

from calledmidway.forms import Form
from calledmidway.ratios import Ratio, as_ratio


def share_gone(wait, length):
    """Return which share of its way a thing has gone a time behind a call."""
    share = as_ratio(wait).over(length)
    return share if share.is_below(1) else Ratio(1)


def place_behind(book, scene, wait, place):
    """Return the place a time behind a call of the scene at a place."""
    found = {}
    for thing in book.things():
        way = book.goal(scene, thing) - place[thing]
        found[thing] = place[thing] + way * share_gone(wait, book.length(scene, thing))
    return found


def bends_of(book, scene, form):
    """Return the sorted list of the bends of a form in a scene."""
    return sorted({book.length(scene, thing) for thing in form.live()})


def passed_form(book, scene, wait, form):
    """Return the form whose value is that of the form a time behind a call of the scene."""
    weights = {}
    number = form.number
    for thing in form.live():
        share = share_gone(wait, book.length(scene, thing))
        weights[thing] = form.weight(thing) * (1 - share)
        number = number + form.weight(thing) * share * book.goal(scene, thing)
    return Form(weights, number)


def passings_of(book, scene, form):
    """Return the tuples of the waits, 0 and the bends, and of the form passed by them."""
    return [(wait, passed_form(book, scene, wait, form)) for wait in [0, *bends_of(book, scene, form)]]


def pace_from(book, scene, since, form):
    """Return the form whose value is the pace of the form just behind a time behind a call of the scene."""
    weights = {}
    number = Ratio(0)
    for thing in form.live():
        length = book.length(scene, thing)
        if as_ratio(since).is_below(length):
            weight = form.weight(thing).over(length)
            weights[thing] = -weight
            number = number + weight * book.goal(scene, thing)
    return Form(weights, number)
