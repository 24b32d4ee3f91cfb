"""The desk: drafts and forms by names, changed and asked by commands."""

from calledmidway.changes import changed, is_change
from calledmidway.commands import read_command
from calledmidway.errors import CommandFailed, InvalidCommand, LimitError, MidwayError, MissingError, NothingToUndo
from calledmidway.errors import StateError
from calledmidway.parts import is_list
from calledmidway.questions import answer_to


class Desk:
    """What was made by commands so far; each change can be taken back."""

    def __init__(self):
        # What is kept by names and the log of it, at first and behind each change that was not taken back.
        # None of them is ever changed.
        self._steps = (({}, ()),)

    def do(self, command):
        """Carry out a command, and return its answer."""
        word, words = read_command(command)
        kept, log = self._steps[-1]
        if word == "undo":
            self._undo()
        elif is_change(word):
            self._steps = (*self._steps, (changed(kept, word, words), (*log, command)))
        else:
            return answer_to(kept, word, words)
        return "done"

    def _undo(self):
        """Take back the last change."""
        if len(self._steps) == 1:
            raise NothingToUndo()
        self._steps = self._steps[:-1]

    def do_all(self, commands):
        """Carry out all of the commands, or none if one of them fails, and return the list of their answers."""
        if not is_list(commands):
            raise InvalidCommand(commands)
        before = self._steps
        answers = []
        for position, command in enumerate(commands):
            try:
                answers.append(self.do(command))
            except (MidwayError, MissingError, StateError, LimitError) as why:
                self._steps = before
                raise CommandFailed(position) from why
        return answers

    def log(self):
        """Return the list of the commands that made what is there."""
        _, log = self._steps[-1]
        return list(log)

    def names(self):
        """Return the sorted list of the names in use."""
        kept, _ = self._steps[-1]
        return sorted(kept)
