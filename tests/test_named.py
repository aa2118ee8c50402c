"""[2]: every function, class and method of the interface takes its arguments by their names, in any order."""

import inspect
import unittest
from importlib import import_module
from itertools import permutations

from anymethod.budgets import Budget, Noise
from anymethod.desk import Desk
from anymethod.methods import Combined
from anymethod.offers import Goal, Offer
from anymethod.questions import effect
from anymethod.ratios import Ratio
from anymethod.readings import Estimator
from anymethod.runs import Run
from anymethod.series import Series
from tests.helping import A, AB, B, made
from tests.test_errors import FIELDS
from tests.test_interface import ARGUMENTS

XY = made(x=Run(A, 1), y=Run(A + B, 2))
OFFER = Offer(AB, [("p", Run(A, 1), 3), ("q", Run(B, 1), 1)])
READINGS = {"x": 1, "y": 3}
METHOD = Combined({"x": -1, "y": 1})
UV = {"a": effect(("u", "v"), "u"), "b": effect(("u", "v"), "v")}
NOISE = Noise(XY, budgets=[Budget(("x", "y"), 1)], offset=1)
# What is passed for an argument of this name, if it is nothing else for the function or its class.
VALUES = {
    "series": XY, "question": B, "wild": 0, "candidate": None, "method": METHOD, "readings": READINGS, "world": (1, 2),
    "effects": AB, "weights": (1, Ratio(1, 2)), "name": "x", "names": ("q", "p"), "one": XY, "other": made(x=Run(A, 2)),
    "offer": OFFER, "goals": [Goal(B, 3)], "answer": (0, ()), "found": (), "error": 2, "rows": OFFER.rows, "table": UV,
    "factors": {"a": 2, "b": -3}, "factor": 3, "order": ("b", "a"), "known": "b", "text": "a - b", "lines": ["x: a +- 1"],
    "run": Run(A, 2), "line": "wild 1", "number": 2, "errors": {"x": 1, "y": 0}, "budgets": [Budget(("x",), 1)], "offset": 1,
    "members": ("x", "y"), "most": 2, "prices": [1], "count": 1, "top": 3, "bottom": 6, "k": 3, "slip": 1,
    "noise": NOISE, "desk": None, "steps": [("drop", "x"), ("attempt", [("drop", "x")])],
}
SPECIAL = {
    "read_run": {"text": "a +- 1"}, "Ratio.read": {"text": "-1/2"}, "Combined": {"weights": {"x": 1}},
    "Bound": {"weights": [{"x": 1}]}, "NoiseBound": {"weights": {"x": 1}}, "Desk.tell_all": {"lines": ["wild 1", "names"]},
    "played": {"errors": {"p": 1}, "course": lambda pairs: None if pairs else "p"},
    "bare": {"course": lambda pairs: None if pairs else "p"},
    "fooled_course": {"course": lambda pairs: None if pairs else "p", "method": lambda pairs: 1},
    "pinned": {"name": "z"}, "effect": {"name": "b"},
}
OWNERS = {
    "Ratio": lambda: Ratio(1, 2), "Question": lambda: A + 2 * B, "Run": lambda: Run(A, 1), "Series": XY.copy,
    "Combined": lambda: METHOD, "Estimator": lambda: Estimator(XY, B), "Offer": lambda: OFFER,
    "Desk": lambda: Desk(AB), "Noise": lambda: NOISE,
}


def seen(value):
    """What can be seen of a result, in a form that can be compared."""
    if isinstance(value, (Combined, Estimator, Noise)):
        return [value.__class__.__name__, *sorted((name, field) for name, field in vars(value).items() if name == "weights")]
    if isinstance(value, Desk):
        return [value.journal(), value.series_now()]
    if inspect.isgenerator(value):
        return list(value)
    if hasattr(value, "__enter__"):
        return [value.__enter__()]
    return value


def anew(name, value):
    """The value, or a copy of it if a call may change it."""
    if name == "desk":
        return Desk(AB)
    return value.copy() if name in ("series", "one") else value


def things():
    """For each name of the interface something that gets it anew, its parameters and what is passed for them."""
    for module, signatures in ARGUMENTS.items():
        for path in signatures:
            owner, _, name = path.partition(".")
            thing = getattr(import_module("anymethod." + module), owner)
            if name == "":
                def fresh(thing=thing):
                    return thing
            elif name == "read":
                def fresh(thing=thing):
                    return thing.read
            else:
                def fresh(owner=owner, name=name):
                    return getattr(OWNERS[owner](), name)
            values = {**VALUES, **SPECIAL.get(path, {})}
            parameters = inspect.signature(fresh()).parameters
            yield path, fresh, {each: (parameters[each].kind, values.get(each)) for each in parameters}


class NamedTest(unittest.TestCase):
    def called(self, fresh, places, names):
        """What the call returns, and what then stands in all that it may have changed."""
        thing = fresh()
        given = [anew(name, value) for name, value in places]
        named = {name: anew(name, value) for name, value in names}
        result = seen(thing(*given, **named))
        changed = [value for value in (*given, *named.values(), getattr(thing, "__self__", None))
                   if isinstance(value, (Desk, Series))]
        return result, [seen(value) for value in changed]

    def test_any_order(self):
        count = 0
        for path, fresh, parameters in things():
            values = [(name, value) for name, (_, value) in parameters.items()]
            expected, _ = self.called(fresh, [], values)
            for order in permutations(values):
                self.assertEqual(self.called(fresh, [], order)[0], expected, path)
                count += 1
        self.assertGreater(count, 400)

    def test_the_same_as_by_place(self):
        for path, fresh, parameters in things():
            places = [(name, value) for name, (kind, value) in parameters.items() if kind.name == "POSITIONAL_OR_KEYWORD"]
            rest = [(name, value) for name, (kind, value) in parameters.items() if (name, value) not in places]
            self.assertEqual(self.called(fresh, places, rest), self.called(fresh, [], [*places, *rest]), path)

    def test_errors(self):
        errors = import_module("anymethod.errors")
        for name, fields in FIELDS.items():
            for order in permutations(fields):
                error = getattr(errors, name)(**{field: field + "!" for field in order})
                self.assertEqual([getattr(error, field) for field in fields], [field + "!" for field in fields])


if __name__ == "__main__":
    unittest.main()
