"""[2] and [20]: the classes Bound and Open."""

import unittest

from anymethod.errors import NoWild
from anymethod.questions import Question
from anymethod.ratios import Ratio
from anymethod.runs import Run
from anymethod.series import Series
from anymethod.telling import Bound, Open
from tests.helping import MethodCase

Q = Question(("a",), (1,))
THINGS = (None, True, False, 0, -5, 10 ** 40, Ratio(1, 2), "", "abc", b"ab", (), (1, [2]), {}, {"x": [1]}, range(3), Q,
          Run(Q, 1), Series(("a",)), NoWild(), Bound(1, ()), Open(None, ()), len, Ratio)


class FieldsTest(MethodCase):
    def test_anything_is_kept_as_it_is(self):
        for thing in THINGS:
            self.assertIs(Bound(thing, ()).error, thing)
            self.assertIs(Open(thing, ()).error, thing)
            self.assertIs(Open(1, thing).world, thing)
            if not isinstance(thing, tuple):
                self.assertIs(Bound(1, thing).weights, thing)
            else:
                self.assertEqual(Bound(1, thing).weights, thing)
                self.assertIs(Bound(1, thing).weights.__class__, tuple)
        error = [1, [2]]
        self.assertIs(Bound(error, ()).error, error)
        self.assertIs(Open(error, ()).error, error)

    def test_numbers_are_kept_as_they_are(self):
        self.assertIs(Bound(3, ()).error.__class__, int)
        bound = Bound(3, [{"x": 2}])
        self.assertIs(bound.weights[0]["x"].__class__, int)
        self.assertIs(Open(True, [1, True]).world[0].__class__, int)
        self.assertIs(Open(True, [1, True]).world[1], True)

    def test_a_list_becomes_a_tuple(self):
        self.assertEqual(vars(Bound(1, [])), {"error": 1, "weights": ()})
        self.assertEqual(vars(Open(1, [])), {"error": 1, "world": ()})
        inner = [3, 4]
        world = Open(1, [1, inner, None]).world
        self.assertEqual(world, (1, [3, 4], None))
        self.assertIs(world[1], inner)
        weights = Bound(1, [inner, ({"x": 1},), "x", 5]).weights
        self.assertEqual(weights, ([3, 4], ({"x": 1},), "x", 5))
        self.assertIs(weights[0], inner)

    def test_dicts_in_the_weights_are_copied(self):
        for kind in (list, tuple):
            inner = [1]
            one, other = {"x": 1, (1, (2, "y")): inner, None: 3}, {}
            bound = Bound(1, kind([one, other, "x"]))
            one["x"] = 2
            del one[None]
            other["y"] = 1
            self.assertEqual(bound.weights, ({"x": 1, (1, (2, "y")): [1], None: 3}, {}, "x"))
            self.assertIs(bound.weights[0][(1, (2, "y"))], inner)

    def test_dicts_elsewhere_are_kept(self):
        table = {"x": 1}
        self.assertIs(Bound(1, table).weights, table)
        self.assertIs(Bound(1, [[table]]).weights[0][0], table)
        self.assertIs(Bound(table, ()).error, table)
        self.assertIs(Open(table, table).world, table)
        self.assertIs(Open(1, [table]).world[0], table)

    def test_later_changes(self):
        weights, world = [{"x": 1}], [1, 2]
        bound, found = Bound(1, weights), Open(1, world)
        weights.append({})
        weights[0]["x"] = 5
        world[0] = 7
        world.append(3)
        self.assertEqual(bound, Bound(1, ({"x": 1},)))
        self.assertEqual(found, Open(1, (1, 2)))

    def test_what_was_passed_is_not_changed(self):
        weights = [{"x": 1}, [2]]
        Bound(1, weights)
        self.assertEqual(weights, [{"x": 1}, [2]])

    def test_by_keyword(self):
        self.assertEqual(Bound(weights=[], error=1), Bound(1, ()))
        self.assertEqual(Open(world=[], error=1), Open(1, ()))


class EqualityTest(MethodCase):
    def same(self, one, other):
        self.assertIs(one == other, True)
        self.assertIs(one != other, False)

    def unequal(self, one, other):
        self.assertIs(one == other, False)
        self.assertIs(other == one, False)
        self.assertIs(one != other, True)

    def test_bounds(self):
        self.same(Bound(Ratio(1), [{"x": 2, "y": Ratio(1, 2)}]), Bound(1, ({"y": Ratio(2, 4), "x": Ratio(2)},)))
        self.same(Bound(None, "x"), Bound(None, "x"))
        for other in (Bound(2, [{"x": 1}]), Bound(None, [{"x": 1}]), Bound(1, [{"x": 2}]), Bound(1, [{"y": 1}]),
                      Bound(1, [{}]), Bound(1, []), Bound(1, [{"x": 1}, {"x": 1}]), Bound(1, {"x": 1}), Bound(1, None)):
            self.unequal(Bound(1, [{"x": 1}]), other)

    def test_opens(self):
        self.same(Open(Ratio(1, 2), [1, 2]), Open(Ratio(2, 4), (Ratio(1), Ratio(2))))
        self.same(Open(None, None), Open(None, None))
        for other in (Open(2, (1, 2)), Open(None, (1, 2)), Open(1, (2, 1)), Open(1, (1,)), Open(1, ()), Open(1, None),
                      Open(1, "12"), Open(1, (1, [2]))):
            self.unequal(Open(1, (1, 2)), other)

    def test_lists_inside_stay_lists(self):
        self.same(Open(1, [[1]]), Open(1, ([1],)))
        self.unequal(Open(1, [[1]]), Open(1, ((1,),)))

    def test_unequal_to_anything_else(self):
        self.unequal(Bound(1, (2,)), Open(1, (2,)))
        for one in (Bound(None, ()), Open(None, ())):
            for other in (None, (), (None, ()), [], {}, "", 0, Q, Run(Q, 1), Series(("a",)), Ratio(1), NoWild(), Bound):
                self.unequal(one, other)


if __name__ == "__main__":
    unittest.main()
