"""Trials: blocks of statements behind which an object is as it was ahead of them."""


class Trial:
    """A context manager for an object that keeps all that changes in `_steps`, and puts a new tuple there each time."""

    def __init__(self, owner):
        self._owner = owner
        self._steps = ()

    def __enter__(self):
        self._steps = self._owner._steps
        return self._owner

    def __exit__(self, kind, value, trace):
        owner = self._owner
        owner._steps = self._steps
