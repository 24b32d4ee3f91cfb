"""Texts: books and runs as lines, to be written and read again, and forms as one line to be read by people."""

from calledmidway.books import check_book
from calledmidway.errors import InvalidForm, InvalidText
from calledmidway.forms import Form
from calledmidway.lines import BookLines, RunLines
from calledmidway.runs import check_run


def _scene_lines(book, scene):
    """Return the lines of a scene."""
    head = f"scene {scene} resting" if scene in book.resting else f"scene {scene}"
    return [head, *[f"to {book.goal(scene, thing)} in {book.length(scene, thing)}" for thing in book.things()]]


def _text_of(lines):
    return "".join([f"{line}\n" for line in lines])


def book_text(book):
    """Return the text of a book."""
    check_book(book)
    return _text_of([
        *[f"thing {thing}" for thing in book.things()],
        *[line for scene in book.scenes() for line in _scene_lines(book, scene)],
        *[f"arrow {one} {other}" for one, other in book.arrows()],
        f"first {book.first}",
    ])


def run_text(run):
    """Return the text of a run."""
    check_run(run)
    return _text_of([f"call {scene} {wait}" for scene, wait in run.calls()])


def _read(text, lines):
    """Return what a text tells whose lines are taken one by one; InvalidText with the wrong line."""
    if not isinstance(text, str):
        raise InvalidText(None)
    rows = text.split("\n")
    for position, line in enumerate(rows[:-1]):
        if not lines.take(line):
            raise InvalidText(position + 1)
    # What stands behind the last line feed is a line that has none, or else the text is to end there.
    if rows[-1] != "" or not lines.is_whole():
        raise InvalidText(len(rows))
    return lines.made()


def read_book(text):
    """Return the book of which this is the text."""
    return _read(text, BookLines())


def read_run(book, text):
    """Return the run of a book of which this is the text."""
    check_book(book)
    return _read(text, RunLines(book))


def form_text(form):
    """Return a form as a string."""
    if not isinstance(form, Form):
        raise InvalidForm(form)
    rows = [f"{form.weight(thing)}*{thing}" for thing in form.live()]
    if form.number.sign != 0 or len(form) == 0:
        rows.append(str(form.number))
    return " + ".join(rows)
