"""Lead-ins: how scenes are reached from the first one."""

from calledmidway.books import check_book
from calledmidway.checks import check_book_and_scene
from calledmidway.parts import check_scene
from calledmidway.runs import Run


def ways_on(book, start, kept):
    """Return a dict from the scenes that are led to from a start to the least of the shortest lists that lead there.

    The scenes kept are not left.
    """
    found = {start: []}
    rows = [start]
    # The rows come in the sequence of their lists, so the first one found for a scene is the least.
    position = 0
    while position < len(rows):
        one = rows[position]
        for scene in book.scenes():
            if scene not in found and one not in kept and (one, scene) in book:
                found[scene] = [*found[one], scene]
                rows.append(scene)
        position = position + 1
    return found


def lead_in(book, scene):
    """Return the least of the shortest lists of scenes that lead to a scene, or None."""
    check_book_and_scene(book, scene)
    return ways_on(book, book.first, []).get(scene)


def lead_run(book, scene):
    """Return the run that calls the lead-in, each scene with its longest length as the wait, or None."""
    scenes = lead_in(book, scene)
    if scenes is None:
        return None
    return Run(book, [(name, book.longest(name)) for name in scenes])


def quick_lead(book, scene):
    """Return calls that lead to a reached scene, of which none counts; if it is resting, it comes to rest."""
    resting = book.resting
    return [(name, book.longest(name) if name in resting else 0) for name in lead_in(book, scene)]


def idle_scenes(book):
    """Return the sorted list of the scenes that are not reached."""
    check_book(book)
    reached = book.reached()
    return [scene for scene in book.scenes() if scene not in reached]


def can_follow(book, one, other):
    """Tell whether an arrow leads from a reached scene to another one."""
    check_book_and_scene(book, one)
    check_scene(book.scenes(), other)
    return (one, other) in book and one in book.reached()
