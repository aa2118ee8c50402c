"""The interface: names, arguments and methods stand where the document lists them."""

import inspect
import unittest
from importlib import import_module

from anymethod.budgets import Budget, Noise, NoiseBound, NoiseOpen
from anymethod.desk import Desk
from anymethod.methods import Combined
from anymethod.offers import Goal, Offer
from anymethod.questions import Question
from anymethod.ratios import Ratio
from anymethod.readings import Estimator
from anymethod.runs import Run
from anymethod.series import Series
from anymethod.telling import Bound, Open

ARITHMETIC = ("__add__", "__radd__", "__sub__", "__rsub__", "__mul__", "__rmul__", "__floordiv__", "__rfloordiv__",
              "__mod__", "__rmod__", "__pow__", "__neg__", "__pos__", "__abs__")
COMPARISONS = ("__eq__", "__lt__", "__le__", "__gt__", "__ge__")
METHODS = {
    Ratio: ("over", "power", "text", "read", *ARITHMETIC, *COMPARISONS),
    Question: ("at", "over", "__add__", "__sub__", "__neg__", "__mul__", "__rmul__", "__eq__"),
    Run: ("sees", "__eq__"),
    Series: ("drop", "names", "copy", "seen_by", "trying", "__getitem__", "__setitem__", "__contains__", "__len__",
             "__or__", "__ior__", *COMPARISONS),
    Bound: ("__eq__",),
    Open: ("__eq__",),
    Combined: ("__call__",),
    Estimator: ("__call__",),
    Offer: ("total", "series_of", "choices", "__eq__"),
    Goal: ("__eq__",),
    Desk: ("limit", "tell", "tell_all", "series_now", "readings_now", "journal", "__call__"),
    Budget: ("__eq__",),
    NoiseBound: ("__eq__",),
    NoiseOpen: ("__eq__",),
    Noise: ("lets", "fits", "price", "least_error", "fooled", "bound", "opened"),
}
ARGUMENTS = {
    "ratios": {"Ratio": "(top, bottom=1)", "Ratio.over": "(self, number)", "Ratio.power": "(self, k)",
               "Ratio.text": "(self)", "Ratio.read": "(text)"},
    "questions": {"Question": "(effects, weights)", "Question.at": "(self, world)", "Question.over": "(self, number)",
                  "effect": "(effects, name)", "nothing": "(effects)"},
    "runs": {"Run": "(question, slip)", "Run.sees": "(self, world)"},
    "series": {"Series": "(effects)", "Series.drop": "(self, name)", "Series.names": "(self)", "Series.copy": "(self)",
               "Series.seen_by": "(self, world)", "Series.trying": "(self)"},
    "changes": {"change": "(series, steps)"},
    "telling": {"Bound": "(error, weights)", "Open": "(error, world)",
                "least_error": "(series, question, *, wild=0)", "bound_of": "(series, question, *, wild=0)",
                "open_of": "(series, question, *, wild=0)", "twin_readings": "(series, question, *, wild=0)"},
    "checking": {"check_bound": "(series, question, candidate, *, wild=0)",
                 "check_open": "(series, question, candidate, *, wild=0)"},
    "methods": {"Combined": "(weights)", "Combined.__call__": "(self, readings)",
                "fooled": "(series, question, method, *, wild=0)", "linear_error": "(series, question, method)",
                "linear_case": "(series, question, method)"},
    "readings": {"fits": "(series, world, readings, *, wild=0)", "world_of": "(series, readings, *, wild=0)",
                 "stretches": "(series, question, readings, *, wild=0)",
                 "estimate": "(series, question, readings, *, wild=0)", "Estimator": "(series, question, *, wild=0)",
                 "Estimator.__call__": "(self, readings)"},
    "clashes": {"clash_of": "(series, readings, *, wild=0)",
                "check_clash": "(series, readings, candidate, *, wild=0)",
                "surely_wild": "(series, readings, *, wild=0)"},
    "compared": {"lacking": "(one, other)", "alike": "(one, other)", "cover": "(one, other)", "needless": "(series)",
                 "trimmed": "(series)"},
    "offers": {"Offer": "(effects, rows)", "Offer.total": "(self, names)", "Offer.series_of": "(self, names)",
               "Offer.choices": "(self)", "Goal": "(question, error, *, wild=0)"},
    "buying": {"cheapest": "(series, offer, goals)", "evidence": "(series, offer, goals)",
               "check_cheapest": "(series, offer, goals, answer, found)",
               "prices": "(series, offer, question, *, wild=0)"},
    "units": {"rewritten": "(series, table)", "rewritten_question": "(question, table)", "scaled": "(series, factors)",
              "scaled_question": "(question, factors)", "slipped": "(series, factor)", "swapped": "(series, order)",
              "swapped_question": "(question, order)", "pinned": "(series, name, known)"},
    "texts": {"question_text": "(question)", "read_question": "(effects, text)", "run_text": "(run)",
              "read_run": "(effects, text)", "series_text": "(series)", "read_series": "(effects, lines)"},
    "desk": {"Desk": "(effects)", "Desk.__call__": "(self, line)", "Desk.tell": "(self, line)",
             "Desk.tell_all": "(self, lines)", "Desk.series_now": "(self)", "Desk.readings_now": "(self)",
             "Desk.journal": "(self)", "allow": "(desk, number)"},
    "budgets": {"Budget": "(members, most)", "NoiseBound": "(error, weights, prices)",
                "NoiseOpen": "(error, world, offset)", "Noise": "(series, *, budgets=(), offset=0)",
                "Noise.lets": "(self, errors)", "Noise.fits": "(self, world, readings)", "Noise.price": "(self, method)",
                "Noise.least_error": "(self, question)", "Noise.fooled": "(self, question, method)",
                "Noise.bound": "(self, question)", "Noise.opened": "(self, question)",
                "check_noise_bound": "(noise, question, candidate)", "check_noise_open": "(noise, question, candidate)"},
    "courses": {"played": "(offer, course, world, *, errors=None)", "bare": "(offer, course)",
                "fooled_course": "(offer, question, course, method)", "best_of": "(offer, question, count)"},
    "heard": {"heard": "(series)", "unheard": "(series)", "told_at_all": "(series, question)"},
}


class InterfaceTest(unittest.TestCase):
    def test_names_and_arguments(self):
        for module, signatures in ARGUMENTS.items():
            for path, signature in signatures.items():
                thing = import_module("anymethod." + module)
                for name in path.split("."):
                    thing = getattr(thing, name)
                self.assertEqual(str(inspect.signature(thing)), signature, path)
                self.assertEqual(thing.__module__, "anymethod." + module, path)

    def test_methods_stand_in_their_class(self):
        for owner, names in METHODS.items():
            self.assertEqual(owner.__bases__, (object,))
            for name in names:
                self.assertIn(name, vars(owner), owner)

    def test_read_is_static(self):
        self.assertIsInstance(vars(Ratio)["read"], staticmethod)

    def test_fields_are_set_when_created(self):
        question = Question(("a",), (1,))
        self.assertEqual(set(vars(Ratio(1, 2))), {"top", "bottom"})
        self.assertEqual(set(vars(question)), {"effects", "weights"})
        self.assertEqual(set(vars(Run(question, 1))), {"question", "slip"})
        self.assertLessEqual({"effects"}, set(vars(Series(("a",)))))
        self.assertEqual(set(vars(Bound(1, ()))), {"error", "weights"})
        self.assertEqual(set(vars(Open(1, ()))), {"error", "world"})
        self.assertEqual(set(vars(Combined({}))), {"weights"})
        self.assertLessEqual({"question", "wild"}, set(vars(Estimator(Series(("a",)), question))))
        self.assertEqual(set(vars(Offer(("a",), [("x", Run(question, 1), 1)]))), {"effects", "rows"})
        self.assertEqual(set(vars(Goal(question, 1))), {"question", "error", "wild"})
        self.assertEqual(set(vars(Budget(("x",), 1))), {"members", "most"})
        self.assertEqual(set(vars(NoiseBound(1, {}, ()))), {"error", "weights", "prices"})
        self.assertEqual(set(vars(NoiseOpen(1, (), 0))), {"error", "world", "offset"})
        self.assertLessEqual({"effects", "budgets", "offset"}, set(vars(Noise(Series(("a",))))))


if __name__ == "__main__":
    unittest.main()
