"""Questions: what the commands answer that ask a desk."""

from calledmidway.bounds import keeps, pace_span, peak, span
from calledmidway.changes import draft_named, form_named
from calledmidway.runs import Run


def _book_and_form(kept, name, other):
    """Return the book and the form of two names."""
    draft, form = draft_named(kept, name), form_named(kept, other)
    return draft.made(), form


def _span(kept, words):
    name, other = words
    book, form = _book_and_form(kept, name, other)
    low, high = span(book, form)
    return f"{low} {high}"


def _keeps(kept, words):
    name, other, bound = words
    book, form = _book_and_form(kept, name, other)
    return "yes" if keeps(book, form, bound) else "no"


def _peak(kept, words):
    name, other = words
    book, form = _book_and_form(kept, name, other)
    calls = peak(book, form).calls()
    return " ".join([f"{scene} {wait}" for scene, wait in calls]) if len(calls) > 0 else "-"


def _pace(kept, words):
    name, scene, other = words
    book, form = _book_and_form(kept, name, other)
    found = pace_span(book, scene, form)
    if found is None:
        return "never"
    low, high = found
    return f"{low} {high}"


def _end(kept, words):
    name, *pairs = words
    draft = draft_named(kept, name)
    run = Run(draft.made(), list(zip(pairs[::2], pairs[1::2])))
    place = run.end()
    return " ".join([str(place[thing]) for thing in sorted(place)])


QUESTIONS = {"span": _span, "keeps": _keeps, "peak": _peak, "pace": _pace, "end": _end}


def answer_to(kept, word, words):
    """Return the answer to a question."""
    answer = QUESTIONS[word]
    return answer(kept, words)
