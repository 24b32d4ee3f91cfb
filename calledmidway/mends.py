"""Mends: changes of a book that bar arrows or let scenes rest, and the least ones with which it keeps wishes."""

from itertools import combinations

from calledmidway.books import Book, check_book
from calledmidway.bounds import greatest, keeps
from calledmidway.checks import is_form_of
from calledmidway.errors import InvalidMends, InvalidWishes, NotAllowed, TooMany
from calledmidway.parts import is_list, is_one_of, is_pair
from calledmidway.ratios import as_ratio, is_number
from calledmidway.runs import Run
from calledmidway.summits import summit_of

MOST_MENDS = 8


def _is_mend(book, value):
    """Tell whether any value is a tuple of a mend's word and of what it is a mend of."""
    if not isinstance(value, tuple) or len(value) == 0:
        return False
    word, names = value[0], value[1:]
    if is_one_of(("bar",), word):
        return names in book
    if is_one_of(("rest",), word):
        return len(names) == 1 and is_one_of(book.scenes(), names[0]) and names[0] not in book.resting
    return False


def is_mend(book, value):
    """Tell whether any value is a mend of a book."""
    check_book(book)
    return _is_mend(book, value)


def are_mends(book, value):
    """Tell whether any value is a list of mends of a book, all different."""
    return is_list(value) and wrong_mend(book, value) is None


def wrong_mend(book, mends):
    """Return the position of the first element of a list that is no mend or stood there before, or None."""
    for position, mend in enumerate(mends):
        if not _is_mend(book, mend) or mend in mends[:position]:
            return position
    return None


def wrong_wish(book, wishes):
    """Return the position of the first element of a list that is no wish, or None."""
    for position, wish in enumerate(wishes):
        if not is_pair(wish) or not is_form_of(book, wish[0]) or not is_number(wish[1]):
            return position
    return None


def are_wishes(book, value):
    """Tell whether any value is a list of wishes."""
    return is_list(value) and wrong_wish(book, value) is None


def _check_mends(book, mends):
    if not is_list(mends):
        raise InvalidMends(None)
    position = wrong_mend(book, mends)
    if position is not None:
        raise InvalidMends(position)


def _check_wishes(book, wishes):
    if not is_list(wishes):
        raise InvalidWishes(None)
    position = wrong_wish(book, wishes)
    if position is not None:
        raise InvalidWishes(position)


def _with_mends(book, mends):
    """Return the book with mends."""
    scenes = {
        scene: {thing: (book.goal(scene, thing), book.length(scene, thing)) for thing in book.things()}
        for scene in book.scenes()
    }
    arrows = [arrow for arrow in book.arrows() if ("bar", *arrow) not in mends]
    resting = [scene for scene in book.scenes() if scene in book.resting or ("rest", scene) in mends]
    return Book(book.things(), scenes, arrows, book.first, resting)


def mended(book, mends):
    """Return the book with mends."""
    check_book(book)
    _check_mends(book, mends)
    return _with_mends(book, mends)


def broken(book, wishes):
    """Return the list of the positions of the wishes that are broken."""
    check_book(book)
    _check_wishes(book, wishes)
    return [position for position, (form, bound) in enumerate(wishes) if not keeps(book, form, bound)]


def broken_run(book, wishes):
    """Return the tuple of the position of the first broken wish and a run at whose end it is broken, or None."""
    check_book(book)
    _check_wishes(book, wishes)
    for position, (form, bound) in enumerate(wishes):
        value, _, calls = summit_of(book, form)
        if as_ratio(bound).is_below(value):
            return position, Run(book, calls)
    return None


def _stays(run, mend):
    """Tell whether a run is also one of its book with a mend."""
    try:
        Run(_with_mends(run.book, [mend]), run.calls())
    except NotAllowed:
        return False
    return True


def _hindering(book, wishes, mends, chosen):
    """Return the mends that hinder some run that breaks a wish in spite of the chosen ones; None if there is none."""
    found = broken_run(_with_mends(book, chosen), wishes)
    if found is None:
        return None
    _, run = found
    plain = Run(book, run.calls())
    return [mend for mend in mends if not _stays(plain, mend)]


def _has_all(mends, some):
    return all([mend in mends for mend in some])


def _has_any(mends, some):
    return any([mend in mends for mend in some])


def _least_sets(book, wishes, mends):
    """Return the list of the least sets of the sorted mends with which the book keeps all wishes."""
    found, hindrances = [], []
    for many in range(len(mends) + 1):
        for chosen in combinations(mends, many):
            # A set is not least that has another one in it, and breaks a wish where a run that does so is not hindered.
            if any([_has_all(chosen, less) for less in found]):
                continue
            if not all([_has_any(chosen, some) for some in hindrances]):
                continue
            hindering = _hindering(book, wishes, mends, chosen)
            if hindering is None:
                found.append(chosen)
            else:
                hindrances.append(hindering)
    return found


def least_mends(book, wishes, allowed):
    """Return the list of the least sets of allowed mends with which a book keeps all wishes."""
    check_book(book)
    _check_wishes(book, wishes)
    _check_mends(book, allowed)
    if len(allowed) > MOST_MENDS:
        raise TooMany("mends", MOST_MENDS)
    # No mend breaks a wish that is kept.
    hard = [wishes[position] for position in broken(book, wishes)]
    return _least_sets(book, hard, sorted(allowed))


def needed_arrows(book, form):
    """Return the sorted list of the arrows without which the greatest value of a form is less."""
    value = greatest(book, form)
    return [arrow for arrow in book.arrows() if greatest(book - arrow, form).is_below(value)]
