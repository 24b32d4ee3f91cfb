"""The six guarantees, over books of all sizes."""

import itertools
import unittest

from calledmidway.bounds import fewest, greatest, keeps, peak
from calledmidway.judge import is_paper, paper
from calledmidway.mends import broken_run, least_mends, mended
from calledmidway.planes import Plane
from calledmidway.ratios import Ratio
from calledmidway.runs import Run, highest
from calledmidway.shares import KINDS
from calledmidway.tables import bound_table, is_bound_table
from calledmidway.ways import greatest_by
from tests.model import full_model, random_calls, random_form, random_generator, random_model
from tests.test_mends import some_mends

TINY = Ratio(1, 10 ** 40)


def samples(number, many, things=4):
    """Some models, books and forms, those with the most scenes that there can be ahead."""
    rng = random_generator(number)
    sizes = [size for size in ((4, 3), (3, 5), (2, 6), (1, 6), (1, 1)) if size[0] <= things]
    for at in range(many):
        model = full_model(rng, *sizes[at]) if at < len(sizes) else random_model(rng, things)
        yield rng, model, model.book(), random_form(rng, model.things)


class GuaranteesTest(unittest.TestCase):
    def test_seen(self):
        for rng, model, book, form in samples(801, 40):
            value, run = greatest(book, form), peak(book, form)
            self.assertEqual(form(run.end()), value)
            self.assertEqual(highest(run, form)[0], value)
            for _ in range(5):
                other = Run(book, random_calls(rng, model, 7))
                self.assertFalse(value.is_below(highest(other, form)[0]))

    def test_few_calls(self):
        for _, _, book, form in samples(802, 40):
            self.assertLessEqual(fewest(book, form), peak(book, form).counting())
            self.assertLessEqual(peak(book, form).counting(), len(form))

    def test_kept_or_broken(self):
        for rng, _, book, form in samples(803, 40):
            for more in (0, TINY, -TINY, rng.randint(-9, 9)):
                bound = greatest(book, form) + more
                table, run = bound_table(book, form, bound), broken_run(book, [(form, bound)])
                self.assertIs(table is None, not keeps(book, form, bound))
                self.assertIs(run is None, keeps(book, form, bound))
                if table is not None:
                    self.assertIs(is_bound_table(book, form, bound, table), True)
                else:
                    self.assertTrue(bound.is_below(form(run[1].end())))

    def assert_one_is_true(self, claim, opposite):
        """Just one of two claims has a paper, and this is one."""
        found, other = paper(claim), paper(opposite)
        self.assertIs(found is None, other is not None)
        self.assertIs(is_paper(claim, found), found is not None)
        self.assertIs(is_paper(opposite, other), other is not None)

    def test_checked(self):
        for rng, model, book, form in samples(804, 30):
            for more in (0, -TINY, rng.randint(-5, 5)):
                parts = book, form, greatest(book, form) + more
                self.assert_one_is_true(("at most", *parts), ("more than", *parts))
                for kind in KINDS:
                    self.assert_one_is_true(("at most by", *parts, kind), ("more than by", *parts, kind))
                parts = book, [(random_form(rng, model.things), 9), parts[1:]], some_mends(rng, model)
                self.assert_one_is_true(("mended", *parts), ("not mended", *parts))

    def test_checked_planes(self):
        checked = 0
        for rng, model, book, form in samples(805, 30, 3):
            one, other = Plane(book, form, random_form(rng, model.things)), random_model(rng, 3)
            other = Plane(other.book(), *(random_form(rng, other.things) * 9 for _ in range(2)))
            for inner, outer in itertools.product((one, other), repeat=2):
                if len(outer.corners()) > 2:
                    self.assert_one_is_true(("within", inner, outer), ("beyond", inner, outer))
                    checked += 1
        self.assertGreater(checked, 50)

    def test_ways(self):
        for _, _, book, form in samples(806, 40):
            even, one, own = [greatest_by(book, form, kind) for kind in KINDS]
            self.assertEqual(even, greatest(book, form))
            self.assertFalse(one.is_below(even) or own.is_below(one))

    def test_mends(self):
        told = 0
        for rng, model, book, form in samples(807, 60, 3):
            allowed = some_mends(rng, model, 8)
            wishes = [(form, greatest(mended(book, allowed), form)), (-form, greatest(book, -form))]
            for chosen in least_mends(book, wishes, allowed):
                self.assertIsNone(broken_run(mended(book, chosen), wishes))
                for less in itertools.chain(*(itertools.combinations(chosen, many) for many in range(len(chosen)))):
                    position, run = broken_run(mended(book, less), wishes)
                    one, bound = wishes[position]
                    self.assertTrue(bound.is_below(one(run.end())))
                    told += 1
        self.assertGreater(told, 5)


if __name__ == "__main__":
    unittest.main()
