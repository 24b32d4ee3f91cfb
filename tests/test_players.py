import copy
import unittest
from fractions import Fraction

from calledmidway.books import Book
from calledmidway.errors import (
    InvalidBook, InvalidCalls, InvalidTime, NoArrow, NotAllowed, TooEarly, UnknownScene,
)
from calledmidway.players import Player, played, tried_player
from calledmidway.ratios import Ratio
from calledmidway.runs import Run
from tests.model import SCENES, example_book, plain, plain_place, random_calls, random_generator, random_model
from tests.test_runs import BIG, NO_CALLS, THREE
from tests.values import NO_LISTS, NO_TIMES, Other, no_names_of, told


def told_all(player):
    """Everything that a player tells."""
    # A copy, which stays when what the player has returned is changed.
    return copy.deepcopy([player.scene, player.place, player.moment, player.run()])


def started():
    player = Player(THREE.book())
    player("flip", 1)
    player("zoom", 6)
    player("calm", Ratio(7, 2))
    return player


class Stop(Exception):
    pass


# What changes the player `started`.
CHANGES = [
    lambda player: player("zoom"), lambda player: player("flip", Ratio(1, 3)), lambda player: player("calm", 0),
    lambda player: [player("flip", 1), player.rest()],
]
# What is refused for the player `started`, with the scene calm on for more than its longest length.
REFUSED = [
    (lambda player: player("x"), UnknownScene), (lambda player: player(None, None), UnknownScene),
    (lambda player: player("zoom", -1), InvalidTime), (lambda player: player("zoom", True), InvalidTime),
]


class PlayerTest(unittest.TestCase):
    def test_at_the_beginning(self):
        for player in (Player(THREE.book()), Player(book=THREE.book())):
            self.assertEqual((player.scene, player.place, player.moment),
                             ("calm", {"d": Ratio(0), "l": Ratio(12)}, Ratio(0)))
            self.assertEqual(player.run(), Run(THREE.book()))

    def test_refused_books(self):
        for value in NO_LISTS + [Book, SCENES, [example_book()], Run(example_book())]:
            self.assertIs(told(lambda: Player(value), InvalidBook).value, value)

    def test_calls_with_and_without_a_wait(self):
        player = Player(example_book())
        self.assertEqual(player("open", 2), {"d": Ratio(100), "l": Ratio(50)})
        self.assertEqual((player.scene, player.moment), ("open", Ratio(2)))
        self.assertEqual(player("shut"), {"d": Ratio(100), "l": Ratio(50)})
        self.assertEqual((player.scene, player.moment), ("shut", Ratio(2)))
        self.assertEqual(player(wait=Ratio(1, 2), scene="open"), {"d": Ratio(100), "l": Ratio(225, 4)})
        self.assertEqual((player.scene, player.moment, player.place),
                         ("open", Ratio(5, 2), {"d": Ratio(100), "l": Ratio(225, 4)}))
        self.assertEqual(player.run(), Run(example_book(), [("open", 2), ("shut", 0), ("open", Ratio(1, 2))]))

    def test_against_the_model(self):
        rng = random_generator(51)
        for _ in range(150):
            model = random_model(rng)
            calls = random_calls(rng, model)
            player = Player(model.book())
            for at, (scene, wait) in enumerate(calls):
                rows, place, last = model.walk(calls[:at + 1])
                found = player(scene, wait)
                self.assertEqual((plain_place(found), plain_place(player.place)), (place, place))
                self.assertEqual(list(found), model.things)
                self.assertEqual((player.scene, plain(player.moment)), (scene, last))
                self.assertEqual(player.run(), Run(model.book(), calls[:at + 1]))
            self.assertEqual(player.run().calls(), Run(model.book(), calls).calls())

    def test_kinds_of_what_is_returned(self):
        player = started()
        self.assertIs(player.moment.__class__, Ratio)
        self.assertIs(player.run().__class__, Run)
        for place in (player.place, player("zoom", 1), player.rest()):
            self.assertIs(place.__class__, dict)
            self.assertEqual(list(place), ["d", "l"])
            self.assertEqual({number.__class__ for number in place.values()}, {Ratio})

    def test_properties_cannot_be_assigned(self):
        player = started()
        for name in ("scene", "place", "moment"):
            with self.assertRaises(AttributeError):
                setattr(player, name, 1)

    def test_the_methods_stand_in_the_class(self):
        for name in ("scene", "place", "moment", "__call__", "rest", "run", "copy", "trial"):
            self.assertIn(name, vars(Player))
        self.assertEqual({value.__module__ for value in (Player, tried_player, played)}, {"calledmidway.players"})

    def test_places_may_be_changed(self):
        player = started()
        before = told_all(player)
        for place in (player.place, player.rest(), player.run().end()):
            place["d"] = Ratio(77)
            place.pop("l")
        self.assertEqual(told_all(player), before)
        player("zoom", 1).clear()
        expected = told_all(player)
        player.copy().rest()
        self.assertEqual(told_all(player), expected)
        self.assertIsNot(player.place, player.place)

    def test_three_hundred_calls(self):
        player = Player(example_book())
        for _ in range(150):
            player("open", 1)
            player("shut", 1)
        self.assertEqual((len(player.run()), player.moment), (300, Ratio(300)))


class RefusedTest(unittest.TestCase):
    def assert_refused(self, player, scene, position, cause, *parts):
        before = told_all(player)
        for action in (lambda: player(scene), lambda: player(scene, 5)):
            error = told(action, NotAllowed)
            self.assertEqual(error.position, position)
            self.assertIs(error.__cause__.__class__, cause)
            self.assertEqual(tuple(vars(error.__cause__).values()), parts)
        self.assertEqual(told_all(player), before)

    def test_scenes_that_are_none(self):
        player = started()
        before = told_all(player)
        for value in no_names_of(["calm", "flip", "zoom"]) + [("calm", "zoom"), "d", Other()]:
            self.assertIs(told(lambda: player(value), UnknownScene).value, value)
            self.assertIs(told(lambda: player(value, -1), UnknownScene).value, value)
        self.assertEqual(told_all(player), before)

    def test_waits_that_are_none(self):
        player = started()
        before = told_all(player)
        for value in NO_TIMES:
            self.assertIs(told(lambda: player("zoom", value), InvalidTime).value, value)
            self.assertIs(told(lambda: player("calm", wait=value), InvalidTime).value, value)
        self.assertEqual(told_all(player), before)
        # A wrong wait is told ahead of a call that is not allowed.
        self.assertEqual(told(lambda: Player(example_book())("shut", -1), InvalidTime).value, -1)

    def test_no_arrow(self):
        player = Player(example_book())
        self.assert_refused(player, "shut", 0, NoArrow, "shut", "shut")
        player("open", 1)
        self.assert_refused(player, "open", 1, NoArrow, "open", "open")
        player("shut", 0)
        self.assert_refused(player, "shut", 2, NoArrow, "shut", "shut")

    def test_too_early(self):
        player = Player(THREE.book())
        player("flip")
        player("zoom", 5)
        self.assert_refused(player, "calm", 2, TooEarly, "zoom")
        self.assert_refused(player, "zoom", 2, TooEarly, "zoom")
        self.assert_refused(player, "flip", 2, NoArrow, "zoom", "flip")
        player.rest()
        player("calm", 2)
        self.assert_refused(player, "flip", 3, TooEarly, "calm")

    def test_the_first_scene_is_left_at_once(self):
        player = Player(THREE.book())
        player.rest()
        player("calm", 1)
        self.assert_refused(player, "flip", 1, TooEarly, "calm")


class RestTest(unittest.TestCase):
    def test_at_the_beginning(self):
        player = Player(THREE.book())
        before = told_all(player)
        self.assertEqual(player.rest(), {"d": Ratio(0), "l": Ratio(12)})
        self.assertEqual(told_all(player), before)

    def test_amid_a_motion(self):
        for wait in (0, 1, Ratio(5, 2), 4, Ratio(6 * BIG - 1, BIG)):
            player = Player(THREE.book())
            player("flip", 1)
            player("zoom", wait)
            self.assertEqual(player.rest(), {"d": Ratio(60), "l": Ratio(0)})
            self.assertEqual((player.scene, player.moment), ("zoom", Ratio(7)))
            self.assertEqual(player.run(), Run(THREE.book(), [("flip", 1), ("zoom", 6)]))
            before = told_all(player)
            self.assertEqual(player.rest(), player.place)
            self.assertEqual(told_all(player), before)
            self.assertEqual(player("calm", 1), {"d": Ratio(40), "l": Ratio(12)})

    def test_of_scenes_that_do_not_rest(self):
        player = Player(example_book())
        player("open", 1)
        self.assertEqual(player.rest(), {"d": Ratio(100), "l": Ratio(100)})
        self.assertEqual(player.run().calls(), [("open", Ratio(4))])
        player("shut", 3)
        player.rest()
        self.assertEqual((player.moment, player.run().calls()), (Ratio(8), [("open", Ratio(4)), ("shut", Ratio(4))]))

    def test_behind_a_motion(self):
        for wait in (6, Ratio(13, 2), 100, BIG):
            player = Player(THREE.book())
            player("zoom", wait)
            before = told_all(player)
            self.assertEqual(player.rest(), {"d": Ratio(60), "l": Ratio(0)})
            self.assertEqual(told_all(player), before)

    def test_only_the_last_call_is_looked_at(self):
        player = Player(example_book())
        player("open", 50)
        player("shut", 1)
        player.rest()
        self.assertEqual(player.run().calls(), [("open", Ratio(50)), ("shut", Ratio(4))])


class CopyTest(unittest.TestCase):
    def test_copies_go_on_independently(self):
        player = started()
        before = told_all(player)
        other = player.copy()
        self.assertIs(other.__class__, Player)
        self.assertIsNot(other, player)
        self.assertEqual(told_all(other), before)
        for change in CHANGES:
            copied = player.copy()
            change(copied)
            self.assertEqual(told_all(player), before)
            self.assertNotEqual(told_all(copied), before)
        player("flip", 2)
        self.assertEqual(told_all(other), before)
        self.assertEqual(len(other.run()), 3)
        other("zoom", 1)
        self.assertEqual((player.scene, other.scene), ("flip", "zoom"))

    def test_players_of_one_book(self):
        book = example_book()
        one, other = Player(book), Player(book)
        one("open", 1)
        self.assertEqual((other.scene, other.moment, other.run()), ("shut", Ratio(0), Run(book)))
        self.assertEqual(book, example_book())

    def test_a_run_stays(self):
        player = started()
        run = player.run()
        expected = repr(run)
        player("flip", 1)
        self.assertEqual((repr(run), len(player.run())), (expected, 4))


class TrialTest(unittest.TestCase):
    def test_changes_in_it(self):
        player = started()
        before = told_all(player)
        for change in CHANGES:
            with player.trial() as held:
                self.assertIs(held, player)
                change(held)
                self.assertNotEqual(told_all(player), before)
            self.assertEqual(told_all(player), before)

    def test_a_rest_in_it(self):
        player = started()
        player("zoom", 1)
        before = told_all(player)
        with player.trial():
            self.assertEqual(player.rest(), {"d": Ratio(60), "l": Ratio(0)})
            player("calm", 9)
        self.assertEqual(told_all(player), before)
        self.assertIs(told(lambda: player("calm"), NotAllowed).__cause__.__class__, TooEarly)

    def test_at_the_beginning(self):
        player = Player(example_book())
        with player.trial() as held:
            held("open", 1)
        self.assertEqual(told_all(player), told_all(Player(example_book())))

    def test_an_error_goes_on(self):
        player = started()
        before = told_all(player)
        for error in (Stop("x"), KeyError("d"), NotAllowed(3)):
            with self.assertRaises(error.__class__) as caught:
                with player.trial() as held:
                    held("zoom", 1)
                    raise error
            self.assertIs(caught.exception, error)
            self.assertEqual(told_all(player), before)
        for action, error in REFUSED:
            told(lambda: action(player), error)
            self.assertEqual(told_all(player), before)

    def test_a_trial_begins_with_its_block(self):
        player = started()
        trial = player.trial()
        player("flip", 1)
        before = told_all(player)
        with trial:
            player("zoom", 1)
        self.assertEqual(told_all(player), before)

    def test_tried(self):
        player = started()
        before = told_all(player)
        seen = []

        def action(value):
            seen.append(value)
            value("zoom", 2)
            return value.moment

        self.assertEqual(tried_player(player, action), Ratio(25, 2))
        self.assertEqual(tried_player(action=action, player=player), Ratio(25, 2))
        self.assertIs(seen[0], player)
        self.assertEqual(len(seen), 2)
        self.assertEqual(told_all(player), before)
        self.assertEqual(tried_player(player, Player.rest), player.place)
        marker = Other()
        self.assertIs(tried_player(player, lambda value: marker), marker)

    def test_tried_and_raised(self):
        player = started()
        before = told_all(player)

        def action(value):
            value("flip", 2)
            value("calm", 2)

        self.assertEqual(told(lambda: tried_player(player, action), NotAllowed).position, 4)
        self.assertEqual(told_all(player), before)
        for action, error in REFUSED:
            told(lambda: tried_player(player, action), error)
            self.assertEqual(told_all(player), before)


class PlayedTest(unittest.TestCase):
    def test_places_one_by_one(self):
        rng = random_generator(52)
        for _ in range(100):
            model = random_model(rng)
            calls = random_calls(rng, model)
            expected = [model.walk(calls[:at + 1])[1] for at in range(len(calls))]
            for value in (calls, tuple(calls)):
                found = list(played(model.book(), value))
                self.assertEqual([plain_place(place) for place in found], expected)
                self.assertEqual(len({id(place) for place in found}), len(calls))

    def test_it_is_a_generator(self):
        places = played(calls=[("open", 2), ("shut", 0), ("open", 1)], book=example_book())
        self.assertIs(iter(places), places)
        first = next(places)
        self.assertEqual(first, {"d": Ratio(100), "l": Ratio(50)})
        first.clear()
        self.assertEqual(next(places), {"d": Ratio(100), "l": Ratio(50)})
        self.assertEqual(next(places), {"d": Ratio(100), "l": Ratio(125, 2)})
        self.assertEqual(list(places), [])
        self.assertEqual(list(played(example_book(), [])), [])
        self.assertEqual(list(played(example_book(), ())), [])

    def test_errors_come_when_the_iteration_begins(self):
        for book, calls, error in [
            (None, [], InvalidBook), (SCENES, None, InvalidBook), (example_book(), None, InvalidCalls),
            (example_book(), [("open", 1), None], InvalidCalls), (example_book(), [("shut", 1)], NotAllowed),
        ]:
            places = played(book, calls)
            told(lambda: next(places), error)

    def test_refused_calls_are_told_ahead_of_the_first_place(self):
        for value in NO_CALLS:
            calls = [("open", 1), ("shut", 1), value]
            self.assertEqual(told(lambda: next(played(example_book(), calls)), InvalidCalls).position, 2)
        for value in NO_LISTS:
            self.assertIs(told(lambda: next(played(example_book(), value)), InvalidCalls).position, None)
            self.assertIs(told(lambda: next(played(value, [])), InvalidBook).value, value)
        error = told(lambda: next(played(example_book(), [("open", 1), ("shut", 1), ("shut", 2)])), NotAllowed)
        self.assertEqual((error.position, error.__cause__.__class__), (2, NoArrow))
        error = told(lambda: next(played(THREE.book(), [("zoom", 6), ("calm", 1), ("flip", 2)])), NotAllowed)
        self.assertEqual((error.position, error.__cause__.__class__, error.__cause__.name), (2, TooEarly, "calm"))

    def test_numbers_of_thirty_figures(self):
        found = list(played(example_book() * BIG, [("open", BIG), ("shut", Ratio(1, BIG))]))
        self.assertEqual(plain_place(found[0]), {"d": Fraction(50), "l": Fraction(25)})


if __name__ == "__main__":
    unittest.main()
