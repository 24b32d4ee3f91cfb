"""Changes: what the commands do that change a desk.

What a desk keeps is a dict from names to drafts and forms. It is never changed, and neither are the drafts in it: a
change returns another dict.
"""

from calledmidway.drafts import Draft
from calledmidway.errors import NameTaken, UnknownName
from calledmidway.forms import Form
from calledmidway.parts import check_scene


def draft_named(kept, name):
    """Return the draft of a name; UnknownName if there is none."""
    if name not in kept or not isinstance(kept[name], Draft):
        raise UnknownName(name)
    return kept[name]


def form_named(kept, name):
    """Return the form of a name; UnknownName if there is none."""
    if name not in kept or not isinstance(kept[name], Form):
        raise UnknownName(name)
    return kept[name]


def _check_free(kept, name):
    """NameTaken if the name stands for something."""
    if name in kept:
        raise NameTaken(name)


def _book(kept, words):
    name, *things = words
    _check_free(kept, name)
    return {**kept, name: Draft(things)}


def _form(kept, words):
    name, *pairs = words
    _check_free(kept, name)
    return {**kept, name: Form(dict(zip(pairs[::2], pairs[1::2])))}


def _drop(kept, words):
    name = words[0]
    if name not in kept:
        raise UnknownName(name)
    return {other: kept[other] for other in kept if other != name}


def _to(draft, words):
    scene, thing, goal, length = words
    draft[scene, thing] = (goal, length)


def _arrow(draft, words):
    draft.add_arrow(tuple(words))


def _bar(draft, words):
    draft.bar_arrow(tuple(words))


def _first(draft, words):
    draft.set_first(words[0])


def _rest(draft, words):
    scene = words[0]
    check_scene(draft.scenes(), scene)
    others = [resting for resting in draft.resting_scenes if resting != scene]
    draft.set_resting([*others, scene])


# What changes the names, and what changes the draft of the first name.
CHANGES = {"book": _book, "form": _form, "drop": _drop}
EDITS = {"to": _to, "arrow": _arrow, "bar": _bar, "first": _first, "rest": _rest}


def is_change(word):
    """Tell whether the first word of a command is that of a change."""
    return word in CHANGES or word in EDITS


def changed(kept, word, words):
    """Return what is kept behind a change."""
    if word in CHANGES:
        change = CHANGES[word]
        return change(kept, words)
    name = words[0]
    draft = draft_named(kept, name).copy()
    edit = EDITS[word]
    edit(draft, words[1:])
    return {**kept, name: draft}
