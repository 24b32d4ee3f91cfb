"""The parts of books and drafts: what they must be, and the errors that wrong ones raise."""

from calledmidway.errors import InvalidArrows, InvalidResting, InvalidScenes, InvalidThings, UnknownScene, UnknownThing
from calledmidway.ratios import is_integer, is_name


def is_list(value):
    """Tell whether any value is accepted as a list."""
    return isinstance(value, (list, tuple))


def is_pair(value):
    """Tell whether any value is a tuple of two."""
    return isinstance(value, tuple) and len(value) == 2


def is_one_of(names, value):
    """Tell whether any value is one of the names."""
    # A value that cannot be a key, such as a list, must be asked for, too.
    return isinstance(value, str) and value in names


def is_motion(value):
    """Tell whether any value is a tuple of a goal and a length."""
    if not is_pair(value):
        return False
    goal, length = value
    return is_integer(goal) and is_integer(length) and length >= 1


def is_arrow(scenes, value):
    """Tell whether any value is a tuple of two of the scenes."""
    return is_pair(value) and all([is_one_of(scenes, scene) for scene in value])


def are_motions(things, value):
    """Tell whether any value is a dict from exactly the things to motions."""
    if not isinstance(value, dict) or len(value) != len(things):
        return False
    return all([thing in value and is_motion(value[thing]) for thing in things])


def check_scene(scenes, value):
    """UnknownScene unless the value is one of the scenes."""
    if not is_one_of(scenes, value):
        raise UnknownScene(value)


def check_thing(things, value):
    """UnknownThing unless the value is one of the things."""
    if not is_one_of(things, value):
        raise UnknownThing(value)


def check_things(things):
    """InvalidThings unless this is a list of at least one NAME, all different."""
    if not is_list(things) or len(things) == 0:
        raise InvalidThings(None)
    for position, thing in enumerate(things):
        if not is_name(thing) or thing in things[:position]:
            raise InvalidThings(position)


def check_scenes(things, scenes):
    """InvalidScenes unless this is a dict from NAMES to motions of the things."""
    if not isinstance(scenes, dict) or len(scenes) == 0 or not all([is_name(name) for name in scenes]):
        raise InvalidScenes(None)
    for name in sorted(scenes):
        if not are_motions(things, scenes[name]):
            raise InvalidScenes(name)


def check_arrows(scenes, arrows):
    """InvalidArrows unless this is a list of arrows between the scenes, all different."""
    if not is_list(arrows):
        raise InvalidArrows(None)
    for position, arrow in enumerate(arrows):
        if not is_arrow(scenes, arrow) or arrow in arrows[:position]:
            raise InvalidArrows(position)


def check_resting(scenes, resting):
    """InvalidResting unless this is a list of some of the scenes, all different."""
    if not is_list(resting):
        raise InvalidResting(None)
    for position, scene in enumerate(resting):
        if not is_one_of(scenes, scene) or scene in resting[:position]:
            raise InvalidResting(position)
