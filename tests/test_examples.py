"""All examples of the document, in their sequence.

>>> from calledmidway.forms import Form
>>> from calledmidway.ratios import Ratio
>>> gap = Form.of("d") - Form.of("l") + 3
>>> [gap.weights(), gap.live(), str(gap({"d": 100, "l": Ratio(1, 2)})), 2 * gap == gap + gap]
[{'d': Ratio(1, 1), 'l': Ratio(-1, 1)}, ['d', 'l'], '205/2', True]

>>> from calledmidway.books import Book
>>> scenes = {"open": {"d": (100, 2), "l": (100, 4)}, "shut": {"d": (0, 4), "l": (0, 2)}}
>>> book = Book(["d", "l"], scenes, [("open", "shut"), ("shut", "open")], "shut")
>>> [book.reached(), book.callers("open"), book.longest("open"), ("open", "open") in book]
[['open', 'shut'], ['shut'], 4, False]
>>> gap = Form.of("d") - Form.of("l")

>>> from calledmidway.drafts import Draft
>>> draft = Draft(["d"])
>>> draft["on", "d"] = (8, 4)
>>> draft["off", "d"] = (0, 2)
>>> draft.first_scene = "off"
>>> [draft["on", "d"], draft.scenes(), draft.made().reached()]
[(8, 4), ['off', 'on'], ['off']]

>>> from calledmidway.runs import Run, crossing
>>> run = Run(book, [("open", 2), ("shut", 1)])
>>> [run.at(1), run.end(), crossing(run, gap, 25), run.paces(gap)] == [
...     {'d': Ratio(50, 1), 'l': Ratio(25, 1)}, {'d': Ratio(75, 1), 'l': Ratio(25, 1)}, Ratio(1, 1),
...     [[Ratio(25, 1)], [Ratio(0, 1)]]]
True

>>> from calledmidway.corners import bends, forms_below, passed
>>> [bends(book, "open", gap), passed(book, "open", 2, gap), len(forms_below(book, gap))]
[[2, 4], Form({'l': Ratio(-1, 2)}, Ratio(50, 1)), 4]

>>> from calledmidway.bounds import pace_span, peak, span
>>> from calledmidway.tables import bound_table
>>> [span(book, gap), pace_span(book, "open", gap), bound_table(book, gap, 49)]
[(Ratio(0, 1), Ratio(50, 1)), (Ratio(-25, 1), Ratio(25, 1)), None]
>>> str(gap(peak(book, gap).end()))
'50'

>>> from calledmidway.forms import Form
>>> from calledmidway.planes import Plane
>>> [[str(x) + " " + str(y) for x, y in Plane(book, Form.of("d"), Form.of("l")).corners()]]
[['0 0', '50 0', '100 50', '100 100']]

>>> from calledmidway.shares import corner_shares
>>> from calledmidway.ways import greatest_by
>>> [corner_shares(book, "open", "one"), str(greatest_by(book, gap, "even")), str(greatest_by(book, gap, "one"))]
[[{'d': 0, 'l': 0}, {'d': 1, 'l': 0}, {'d': 1, 'l': 1}], '50', '100']

>>> from calledmidway.mends import least_mends
>>> allowed = [("rest", "open"), ("rest", "shut"), ("bar", "open", "shut"), ("bar", "shut", "open")]
>>> [least_mends(book, [(gap, 40)], allowed), least_mends(book, [(gap, 50)], allowed), least_mends(
...     book, [(gap, -1)], allowed)]
[[(('bar', 'shut', 'open'),)], [()], []]

>>> from calledmidway.desk import Desk
>>> desk = Desk()
>>> desk.do_all(["book b d", "to b on d 8 4", "to b off d 0 2", "arrow b off on", "arrow b on off", "first b off",
...              "form f d 1"])
['done', 'done', 'done', 'done', 'done', 'done', 'done']
>>> [desk.do("span b f"), desk.do("pace b off f"), desk.do("end b on 1 off 1/2")]
['0 8', '-4 0', '3/2']
"""

import doctest
import sys
import unittest


class ExamplesTest(unittest.TestCase):
    def test_examples(self):
        found = doctest.testmod(sys.modules[__name__])
        self.assertEqual((found.failed, found.attempted > 30), (0, True))

    def test_what_the_overview_tells(self):
        # If open is called, then 2 later d stands at 100 and l at 50; at rest the difference is 0.
        from calledmidway.books import Book
        from calledmidway.bounds import span
        from calledmidway.forms import Form
        from calledmidway.ratios import Ratio
        from calledmidway.runs import Run

        scenes = {"open": {"d": (100, 2), "l": (100, 4)}, "shut": {"d": (0, 4), "l": (0, 2)}}
        book = Book(["d", "l"], scenes, [(one, other) for one in scenes for other in scenes], "shut")
        gap = Form.of("d") - Form.of("l")
        self.assertEqual(Run(book, [("open", 2)]).end(), {"d": Ratio(100), "l": Ratio(50)})
        self.assertEqual([gap(book.goals(scene)) for scene in book.scenes()], [Ratio(0), Ratio(0)])
        self.assertEqual(span(book, gap), (Ratio(0), Ratio(50)))


if __name__ == "__main__":
    unittest.main()
