import unittest

from calledmidway import errors
from tests.values import NO_NAMES, NO_NUMBERS, NUMBERS

HEADS = {
    "MidwayError": ValueError,
    "MissingError": LookupError,
    "StateError": RuntimeError,
    "LimitError": ArithmeticError,
}
BELOW = {
    "MidwayError": {
        "InvalidNumber": ["value"], "InvalidName": ["value"], "InvalidWeights": ["value"],
        "InvalidForm": ["value"], "InvalidPlace": ["value"], "InvalidThings": ["position"],
        "InvalidScenes": ["name"], "InvalidArrows": ["position"], "InvalidArrow": ["value"],
        "InvalidResting": ["position"], "InvalidEntry": ["value"], "InvalidMotion": ["value"],
        "InvalidBook": ["value"], "InvalidCalls": ["position"], "InvalidRun": ["value"],
        "InvalidTime": ["value"], "InvalidPlane": ["value"], "InvalidPoint": ["value"],
        "InvalidKind": ["value"], "InvalidShares": ["position"], "InvalidWishes": ["position"],
        "InvalidMends": ["position"], "InvalidText": ["line"], "InvalidClaim": ["value"],
        "InvalidCommand": ["value"],
    },
    "MissingError": {
        "UnknownThing": ["value"], "UnknownScene": ["value"], "UnknownArrow": ["value"],
        "UnknownName": ["value"],
    },
    "StateError": {
        "DividedByZero": [], "ArrowTaken": ["value"], "NameTaken": ["name"], "NoFirst": [],
        "NotAllowed": ["position"], "NoArrow": ["one", "other"], "TooEarly": ["name"],
        "NothingToUndo": [], "CommandFailed": ["position"],
    },
    "LimitError": {"TooMany": ["what", "limit"]},
}
ANY_VALUES = NO_NUMBERS + NUMBERS + NO_NAMES


def each_error():
    for head in BELOW:
        for name in BELOW[head]:
            yield getattr(errors, head), getattr(errors, name), BELOW[head][name]


class ErrorsTest(unittest.TestCase):
    def test_there_are_thirty_nine_errors_and_four_heads(self):
        self.assertEqual(len(list(each_error())), 39)
        classes = {name for name in vars(errors) if isinstance(getattr(errors, name), type)}
        self.assertEqual(classes, set(HEADS).union(*BELOW.values()))

    def test_heads_are_made_without_values_and_stand_below_pythons_errors(self):
        for name, above in HEADS.items():
            with self.subTest(name):
                head = getattr(errors, name)
                self.assertEqual(head.__bases__, (above,))
                with self.assertRaises(above):
                    raise head()

    def test_each_error_stands_directly_below_its_head_alone(self):
        for head, error, _ in each_error():
            with self.subTest(error.__name__):
                self.assertEqual(error.__bases__, (head,))
                self.assertEqual(error.__module__, "calledmidway.errors")

    def test_each_error_keeps_what_was_passed_by_position(self):
        for _, error, names in each_error():
            for at, value in enumerate(ANY_VALUES):
                with self.subTest(error.__name__, at=at):
                    values = [value, ANY_VALUES[at - 1]][:len(names)]
                    made = error(*values)
                    for name, kept in zip(names, values):
                        self.assertIs(getattr(made, name), kept)

    def test_each_error_keeps_what_was_passed_by_name(self):
        for _, error, names in each_error():
            for at, value in enumerate(ANY_VALUES):
                with self.subTest(error.__name__, at=at):
                    values = [value, ANY_VALUES[at - 1]][:len(names)]
                    made = error(**dict(zip(names, values)))
                    for name, kept in zip(names, values):
                        self.assertIs(getattr(made, name), kept)

    def test_each_error_needs_its_values(self):
        for _, error, names in each_error():
            with self.subTest(error.__name__):
                if names:
                    self.assertRaises(TypeError, error)
                    self.assertRaises(TypeError, error, *([1] * (len(names) + 1)))
                else:
                    self.assertIsInstance(error(), error)

    def test_each_error_is_caught_by_its_head_and_by_pythons_error(self):
        for head, error, names in each_error():
            for catcher in (error, head, HEADS[head.__name__], Exception):
                with self.subTest(error.__name__, catcher=catcher.__name__):
                    with self.assertRaises(catcher):
                        raise error(*[None for _ in names])

    def test_no_error_is_caught_by_another_head(self):
        for head, error, names in each_error():
            for name in HEADS:
                with self.subTest(error.__name__, name=name):
                    other = getattr(errors, name)
                    self.assertEqual(issubclass(error, other), other is head)


if __name__ == "__main__":
    unittest.main()
