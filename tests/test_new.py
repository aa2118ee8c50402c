"""[2]: every list, dict and series that is returned is new, those inside too, and belongs to the caller."""

import copy
import unittest

from anymethod.budgets import Budget, Noise, NoiseBound, NoiseOpen
from anymethod.buying import evidence, prices
from anymethod.clashes import clash_of, surely_wild
from anymethod.compared import cover, lacking, needless, trimmed
from anymethod.courses import bare, best_of, fooled_course, played
from anymethod.desk import Desk
from anymethod.heard import heard, unheard
from anymethod.methods import Combined, fooled, linear_case
from anymethod.offers import Goal, Offer
from anymethod.questions import Question
from anymethod.readings import stretches, world_of
from anymethod.runs import Run
from anymethod.series import Series
from anymethod.telling import Bound, Open, bound_of, open_of, twin_readings
from anymethod.texts import read_series, series_text
from anymethod.units import pinned, rewritten, scaled, slipped, swapped
from tests.helping import A, AB, B, made

FULL = made(w=Run(A, 1), x=Run(A, 1), y=Run(A + B, 2), z=Run(B, 5))
SMALL = made(x=Run(A, 1), y=Run(A + B, 2))
OFFER = Offer(AB, [("p", Run(A, 1), 3), ("q", Run(B, 1), 1)])
NOISE = Noise(FULL, budgets=[Budget(("x", "y"), 1)], offset=1)
READINGS = {"w": 1, "x": 1, "y": 3, "z": 1}
CLASHING = {"w": 1, "x": 9, "y": 3, "z": 99}
DESK = Desk(AB)
DESK.tell_all(["run x a +- 1", "run y a + b +- 2", "read x 5", "read y 9"])
CALLS = {
    "names": FULL.names, "copy": FULL.copy, "seen_by": lambda: FULL.seen_by((9, 9)), "or": lambda: SMALL | FULL,
    "bound_of": lambda: bound_of(FULL, A, wild=0), "bound_of with wild runs": lambda: bound_of(FULL, A - A, wild=1),
    "open_of": lambda: open_of(FULL, B), "twin_readings": lambda: twin_readings(FULL, B, wild=1),
    "fooled": lambda: fooled(FULL, B, lambda readings: readings.clear() or 1),
    "linear_case": lambda: linear_case(FULL, B, Combined({"x": -1, "y": 1})),
    "world_of": lambda: world_of(FULL, READINGS), "stretches": lambda: stretches(FULL, B, READINGS, wild=1),
    "clash_of": lambda: clash_of(FULL, CLASHING, wild=1), "surely_wild": lambda: surely_wild(FULL, {**READINGS, "x": 9}, wild=1),
    "lacking": lambda: lacking(FULL, made()), "cover": lambda: cover(SMALL, FULL), "needless": lambda: needless(FULL),
    "trimmed": lambda: trimmed(FULL), "trimmed without needless runs": lambda: trimmed(SMALL),
    "series_of": lambda: OFFER.series_of(["p", "q"]), "choices": lambda: list(OFFER.choices()),
    "evidence": lambda: evidence(made(), OFFER, [Goal(A + B, 2)]), "prices": lambda: prices(made(), OFFER, A),
    "rewritten": lambda: rewritten(FULL, {"a": A, "b": B}), "scaled": lambda: scaled(FULL, {"a": 1, "b": 1}),
    "slipped": lambda: slipped(FULL, 1), "swapped": lambda: swapped(FULL, AB), "pinned": lambda: pinned(FULL, "p", "a"),
    "series_text": lambda: series_text(FULL), "read_series": lambda: read_series(AB, ["x: a +- 1"]),
    "series_now": DESK.series_now, "readings_now": DESK.readings_now, "journal": DESK.journal,
    "tell_all": lambda: DESK.tell_all(["names", "ask a"]), "bound": lambda: NOISE.bound(B), "opened": lambda: NOISE.opened(B),
    "noise.fooled": lambda: NOISE.fooled(B, lambda readings: readings.clear() or 1),
    "played": lambda: played(OFFER, lambda pairs: None if pairs else "p", (1, 2)),
    "bare": lambda: bare(OFFER, lambda pairs: None if pairs else "p"),
    "fooled_course": lambda: fooled_course(OFFER, A, lambda pairs: None if pairs else "p", lambda pairs: pairs.clear() or 1),
    "best_of": lambda: best_of(OFFER, A, 1), "heard": lambda: heard(FULL), "unheard": lambda: unheard(SMALL),
}


def spoil(value):
    """Changes all lists, dicts and series in a result."""
    if isinstance(value, (list, tuple)):
        for item in value:
            spoil(item)
    if isinstance(value, list):
        value.append("spoiled")
        value.reverse()
    if isinstance(value, dict):
        for item in value.values():
            spoil(item)
        value.clear()
        value["spoiled"] = None
    if isinstance(value, Series):
        for name in value.names():
            value[name] = Run(Question(value.effects, [7] * len(value.effects)), 7)
        value.drop(value.names()[0])
    if isinstance(value, (Bound, Open, NoiseBound, NoiseOpen)):
        for field in vars(value).values():
            spoil(field)


class NewTest(unittest.TestCase):
    def test_spoiled_results(self):
        before = FULL.copy(), SMALL.copy(), copy.deepcopy(vars(OFFER)), DESK.journal()
        for name, call in CALLS.items():
            first = call()
            kept = copy.deepcopy(first)
            self.assertEqual(first, kept, name)
            spoil(first)
            self.assertEqual(call(), kept, name)
            self.assertEqual(call(), call(), name)
        self.assertEqual((FULL, SMALL, vars(OFFER), DESK.journal()), before)

    def test_lists_and_dicts_are_not_the_same_objects(self):
        for name, call in CALLS.items():
            one, other = call(), call()
            if isinstance(one, (list, dict, Series)):
                self.assertIsNot(one, other, name)
            if isinstance(one, tuple):
                for left, right in zip(one, other):
                    if isinstance(left, (list, dict)):
                        self.assertIsNot(left, right, name)


if __name__ == "__main__":
    unittest.main()
