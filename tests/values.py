"""Values of every kind, for tests of what is refused."""

from calledmidway.forms import Form
from calledmidway.ratios import Ratio


class Other:
    """A class that the package does not know."""


class Like:
    """A value that says it is equal to whatever it is compared with."""

    def __eq__(self, other):
        return True

    def __hash__(self):
        return 0


NO_NUMBERS = [
    True, False, None, "", "1", "d", "1/2", b"", b"1", [], [1], (), (1,), (1, 2), {}, {"d": 1},
    set(), frozenset([1]), Form(), Form(None, 1), Form.of("d"), Other(), Other, int, Ratio, len,
]
NUMBERS = [
    0, 1, -1, 7, -12, 10 ** 30, -(10 ** 30) - 1,
    Ratio(0), Ratio(1), Ratio(-1, 2), Ratio(2, 3), Ratio(10 ** 30, 7),
]
NAMES = ["a", "z", "d", "drawer", "abcdefgh", "zzzzzzzz"]
NO_NAMES = [
    "", "abcdefghi", "A", "aB", "Abc", "a1", "1", "a b", " a", "a ", " ", "a_b", "_", "a-b", "a.b",
    "a\n", "\na", "a\nb", "\n", "abcdefgh\n", "`", "{", "@", "[", "\u00e4", "\u00df", "\u0431", "\u00aa", "a\u0301",
    "a" * 100, b"a", b"", 0, 1, True, False, None, [], ["a"], (), ("a",), {}, {"a": 1},
    set(), frozenset(["a"]), Ratio(1), Form(), Form.of("a"), Other(), Other, str,
]


def told(action, error):
    """Return the error of just this class that the action raises."""
    try:
        action()
    except Exception as found:
        if found.__class__ is not error:
            raise AssertionError(f"{found!r} in the place of {error.__name__}") from found
        return found
    raise AssertionError(f"no {error.__name__}")


NO_LISTS = [
    True, False, None, 0, 1, "", "d", "open", b"", b"d", {}, {"d": 1}, {"open": "shut"}, set(), {"d"},
    frozenset(["d"]), Ratio(0), Ratio(1, 2), Form(), Form.of("d"), Other(), Other, list, len,
]
NO_TIMES = [value for value in NO_NUMBERS] + [-1, Ratio(-1, 10 ** 30), -(10 ** 30)]
NO_FORMS = [value for value in NO_NUMBERS if not isinstance(value, Form)] + [0, 1, Ratio(1, 2)]


def no_names_of(names):
    """Values that are none of the names: those of other kinds, names near them, and tuples and lists of them."""
    near = ["", "x", "nowhere", names[0] + "x", names[0].upper(), " " + names[0], names[0][:-1], names[0].encode()]
    more = [tuple(names), (names[0],), (names[0], names[0]), [names[0]], {names[0]: 1}, {names[0]}]
    return [value for value in near + more + NO_NUMBERS + [0, 1, Ratio(1)] if not (
        value.__class__ is str and value in names)]
