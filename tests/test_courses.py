"""[51] to [53]: courses that are played, bare and fooled, and the best choice of at most so many runs."""

import unittest
from itertools import combinations

from anymethod.courses import bare, best_of, fooled_course, played
from anymethod.errors import Clash, NoCount, NoCourse, NoErrors, NoMethod, NoWorld, OtherEffects
from anymethod.offers import Offer
from anymethod.questions import Question, effect, nothing
from anymethod.ratios import Ratio
from anymethod.runs import Run
from anymethod.telling import bound_of, least_error
from tests.helping import A, AB, B, CANDIDATES, NO_INTEGERS, NO_NUMBERS, NO_SEQUENCES, MethodCase, hashable
from tests.second import EFFECTS, Maker, fraction, second_least_error

OFFER = Offer(AB, [("x", Run(A, 1), 3), ("y", Run(A + B, 2), 1), ("z", Run(B, 5), 1)])
OTHERS = (effect(("b", "a"), "a"), effect(("a",), "a"), Question(("a", "b", "c"), (1, 1, 1)), nothing(("a", "c")))
SMALL = Ratio(1, 10 ** 40)


class Course:
    """A course that follows a list of answers, keeps what it was called with, and spoils it."""

    def __init__(self, *answers):
        self.answers = list(answers)
        self.calls = []
        self.lists = []

    def __call__(self, pairs):
        self.calls.append(list(pairs))
        self.lists.append(pairs)
        answer = self.answers[len(self.calls) - 1] if len(self.calls) <= len(self.answers) else None
        pairs.append("spoiled")
        pairs[0] = None
        return answer


def example(pairs):
    return "x" if pairs == [] else None if len(pairs) == 2 else "y" if pairs[0][1] > 0 else "z"


class CourseCase(MethodCase):
    def pairs_hold(self, pairs, expected):
        self.assertIs(pairs.__class__, list)
        for pair in pairs:
            self.assertIs(pair.__class__, tuple)
            self.assertIs(pair[0].__class__, str)
            self.assertIs(pair[1].__class__, Ratio)
        self.assertEqual(pairs, expected)

    def calls_hold(self, course, expected):
        """The course was called with each beginning of the pairs once, each time with a list of its own."""
        self.assertEqual(len(course.calls), len(expected) + 1)
        for count, call in enumerate(course.calls):
            self.pairs_hold(call, expected[:count])
        self.assertEqual(len({id(pairs) for pairs in course.lists}), len(course.lists))


# Each way to play a course, for what all of them have in common.
WAYS = (
    lambda course: played(OFFER, course, (0, 0)),
    lambda course: bare(OFFER, course),
    lambda course: fooled_course(OFFER, A, course, lambda pairs: 0),
)


class CourseTest(CourseCase):
    def test_stops_at_once(self):
        for way, result in zip(WAYS, ([], [], ([], (1, 0)))):
            course = Course()
            self.assertEqual(way(course), result)
            self.calls_hold(course, [])

    def test_takes_all_runs(self):
        for names in ("xyz", "zxy", "yzx"):
            for way in WAYS:
                course = Course(*names)
                way(course)
                self.calls_hold(course, [(name, 0) for name in names])

    def test_no_course(self):
        for way in WAYS:
            for answer in ("w", "", "X", "xy", *CANDIDATES, OFFER, 0, ("x",), ["x"], b"x"):
                if answer is None or answer in ("x", "y", "z"):
                    continue
                for before in ((), ("z",), ("y", "x"), ("x", "z", "y")):
                    course = Course(*before, answer, "x")
                    self.refused(NoCourse, (len(before),), way, course)
                    self.assertEqual(len(course.calls), len(before) + 1)

    def test_a_name_twice(self):
        for way in WAYS:
            for names in (("x", "x"), ("x", "y", "x"), ("z", "y", "x", "y"), ("y", "x", "z", "z")):
                self.refused(NoCourse, (len(names) - 1,), way, Course(*names))

    def test_errors_of_the_course(self):
        for way in WAYS:
            for error in (KeyError("x"), ZeroDivisionError(), Clash(), NoCourse(7), KeyboardInterrupt()):
                for last in (0, 1, 3):
                    calls = []

                    def course(pairs):
                        calls.append(pairs)
                        if len(pairs) == last:
                            raise error
                        return "xyz"[len(pairs)]

                    with self.assertRaises(error.__class__) as caught:
                        way(course)
                    self.assertIs(caught.exception, error)
                    self.assertEqual(len(calls), last + 1)


class PlayedTest(CourseCase):
    def test_example(self):
        self.pairs_hold(played(OFFER, example, (4, 1), errors={"y": -2}), [("x", 4), ("y", 3)])
        self.pairs_hold(played(OFFER, example, (0, 1)), [("x", 0), ("z", 1)])

    def test_readings(self):
        course = Course("z", "y", "x")
        expected = [("z", Ratio(1, 2) - 5), ("y", Ratio(7, 2)), ("x", 3)]
        self.pairs_hold(played(OFFER, course, [3, Ratio(1, 2)], errors={"z": -5}), expected)
        self.calls_hold(course, expected)
        self.pairs_hold(played(errors=None, world=(1, 2), course=Course("y"), offer=OFFER), [("y", 3)])

    def test_a_course_that_depends_on_the_readings(self):
        for error, name in ((1, "y"), (0, "z"), (-1, "z")):
            self.pairs_hold(played(OFFER, example, (0, 0), errors={"x": error}), [("x", error), (name, 0)])

    def test_the_list_is_new(self):
        course = Course("x", "y")
        pairs = played(OFFER, course, (1, 1))
        for given in course.lists:
            self.assertIsNot(given, pairs)
        pairs.clear()
        self.pairs_hold(played(OFFER, Course("x", "y"), (1, 1)), [("x", 1), ("y", 2)])

    def test_errors_at_the_slip_and_beyond(self):
        for name, slip in (("x", 1), ("y", 2), ("z", 5)):
            for sign in (1, -1):
                for errors in ({name: sign * slip}, {name: Ratio(sign * slip)}, {name: sign * slip, "w": None}):
                    answer = dict(x=2, y=5, z=3)[name]
                    self.pairs_hold(played(OFFER, Course(name), (2, 3), errors=errors), [(name, answer + sign * slip)])
                for taken in ((), (name,), ("x", "y", "z")):
                    course = Course(*taken)
                    errors = {name: sign * (slip + SMALL)}
                    self.refused(NoErrors, (name,), lambda: played(OFFER, course, (2, 3), errors=errors))
                    self.assertEqual(course.calls, [])

    def test_no_errors(self):
        course = Course("x")
        for errors in CANDIDATES:
            if errors is not None and not isinstance(errors, dict):
                self.refused(NoErrors, (None,), lambda: played(OFFER, course, (0, 0), errors=errors))
        for value in NO_NUMBERS:
            for errors, name in (({"x": value}, "x"), ({"z": value, "y": 0}, "z"), ({"z": value, "y": value}, "y"),
                                 ({"z": 6, "y": value}, "y"), ({"y": 3, "x": 1, "z": value}, "y")):
                self.refused(NoErrors, (name,), lambda: played(OFFER, course, (0, 0), errors=errors))
        self.assertEqual(course.calls, [])

    def test_keys_that_are_not_offered(self):
        for key in hashable(("w", "X", "", 5, None, ("x",), b"x", True)):
            for value in (99, None, "a", []):
                self.pairs_hold(played(OFFER, Course("x"), (1, 0), errors={key: value, "x": 1}), [("x", 2)])
        self.pairs_hold(played(OFFER, Course("x"), (1, 0), errors={}), [("x", 1)])

    def test_no_world_comes_first(self):
        course = Course("x")
        for world in (*NO_SEQUENCES, (), (1,), [1, 2, 3], (1, True), (None, 1), [1, "2"]):
            for errors in (None, {}, 5, {"x": 9}):
                self.refused(NoWorld, (), lambda: played(OFFER, course, world, errors=errors))
        self.assertEqual(course.calls, [])

    def test_a_course_that_changes_what_was_passed(self):
        world, errors = [1, 1], {"x": 1, "y": 1}

        def course(pairs):
            world[0] = 100
            errors.clear()
            return "xy"[len(pairs)] if len(pairs) < 2 else None

        self.pairs_hold(played(OFFER, course, world, errors=errors), [("x", 2), ("y", 3)])

    def test_arguments_stay(self):
        world, errors = [1, 1], {"x": 1, "w": None}
        played(OFFER, Course("x"), world, errors=errors)
        self.assertEqual((world, errors), ([1, 1], {"x": 1, "w": None}))


class BareTest(CourseCase):
    def test_example(self):
        self.assertEqual(bare(OFFER, example), ["x", "z"])
        self.assertEqual(bare(course=Course("z", "y"), offer=OFFER), ["z", "y"])

    def test_all_readings_are_0(self):
        course = Course("z", "x", "y")
        names = bare(OFFER, course)
        self.assertIs(names.__class__, list)
        self.assertEqual(names, ["z", "x", "y"])
        self.calls_hold(course, [("z", 0), ("x", 0), ("y", 0)])

    def test_fact(self):
        """In a world that no bare run sees, and in the opposite one, a course can make just the bare runs."""
        maker = Maker(171)
        for offer, question in offers(172, 40):
            names = bare(offer, chooser(offer, maker.chance.randint(0, 5)))
            series = offer.series_of(names)
            seen = least_error(series, question)
            world = fooled_course(offer, question, chooser(offer, len(names)), lambda pairs: 0)[1]
            if seen is not None and series.seen_by(world) == []:
                for sign in (1, -1):
                    errors = {name: -sign * series[name].question.at(world) for name in names}
                    pairs = played(offer, chooser(offer, len(names)), [sign * number for number in world], errors=errors)
                    self.pairs_hold(pairs, [(name, 0) for name in names])


def offers(seed, count):
    maker = Maker(seed, most=2)
    for at in range(count):
        effects = EFFECTS[:1 + at % 4]
        rows = [("o" + str(k), maker.run(effects), maker.chance.randint(0, 3)) for k in range(maker.chance.randint(1, 5))]
        yield Offer(effects, rows), maker.question(effects)


def chooser(offer, count):
    """A course that makes up to so many runs, those first whose reading before was small."""
    names = [name for name, _, _ in offer.rows]

    def course(pairs):
        left = [name for name in names if name not in [made for made, _ in pairs]]
        if left == [] or len(pairs) >= count:
            return None
        return left[0] if pairs == [] or pairs[-1][1] > 0 else left[-1]

    return course


class FooledCourseTest(CourseCase):
    def holds(self, offer, question, course, number):
        calls = []

        def method(pairs):
            calls.append((pairs, list(pairs)))
            pairs.append(None)
            pairs[0] = 5
            return number

        result = fooled_course(offer, question, course, method)
        self.assertIs(result.__class__, tuple)
        pairs, world = result
        names = [name for name, _ in pairs]
        self.pairs_hold(pairs, [(name, 0) for name in names])
        self.assertEqual(len(calls), 1)
        self.pairs_hold(calls[0][1], pairs)
        self.assertIsNot(calls[0][0], pairs)
        self.assertIs(world.__class__, tuple)
        for value in world:
            self.assertIs(value.__class__, Ratio)
        series = offer.series_of(names)
        self.assertEqual(series.seen_by(world), [])
        error = least_error(series, question)
        self.assertGreaterEqual(abs(question.at(world) - number), 1 if error is None else error)
        return names

    def test_ordinary(self):
        for number in (0, 3, -3, Ratio(1, 2), 10 ** 4999, Ratio(-10 ** 4999, 3)):
            self.assertEqual(self.holds(OFFER, B, example, number), ["x", "z"])
            self.assertEqual(self.holds(OFFER, B, Course("y", "x"), number), ["y", "x"])
            self.assertEqual(self.holds(OFFER, B, Course(), number), [])
            self.assertEqual(self.holds(OFFER, nothing(AB), Course("x"), number), ["x"])

    def test_any(self):
        maker = Maker(173)
        for offer, question in offers(174, 60):
            count = maker.chance.randint(0, 5)
            names = self.holds(offer, question, chooser(offer, count), maker.number())
            self.assertEqual(names, bare(offer, chooser(offer, count)))

    def test_other_effects_come_first(self):
        course, calls = Course("x"), []
        for question in OTHERS:
            self.refused(OtherEffects, (), fooled_course, OFFER, question, course, calls.append)
        self.assertEqual((course.calls, calls), ([], []))

    def test_the_course_comes_before_the_method(self):
        calls = []
        self.refused(NoCourse, (1,), fooled_course, OFFER, A, Course("x", "x"), calls.append)
        self.assertEqual(calls, [])

    def test_no_number(self):
        for value in NO_NUMBERS:
            calls = []

            def method(pairs):
                calls.append(pairs)
                return value

            self.refused(NoMethod, (), fooled_course, OFFER, A, Course("x"), method)
            self.assertEqual(len(calls), 1)

    def test_errors_of_the_method(self):
        for error in (KeyError("x"), Clash(), NoMethod(), KeyboardInterrupt()):
            calls = []

            def method(pairs):
                calls.append(pairs)
                raise error

            with self.assertRaises(error.__class__) as caught:
                fooled_course(OFFER, A, Course("x"), method)
            self.assertIs(caught.exception, error)
            self.assertEqual(len(calls), 1)

    def test_how_often_the_course_is_called(self):
        course = Course("z", "y", "x")
        fooled_course(OFFER, A, course, lambda pairs: 0)
        self.calls_hold(course, [("z", 0), ("y", 0), ("x", 0)])

    def test_the_same_call_again(self):
        for number in (-1, 1):
            results = [fooled_course(OFFER, B, example, lambda pairs: number) for _ in range(2)]
            self.assertEqual(*results)
            self.assertIsNot(results[0][0], results[1][0])


class BestOfTest(CourseCase):
    def best(self, offer, question, count):
        result = best_of(offer, question, count)
        self.assertIs(result.__class__, tuple)
        error, names = result
        self.assertIs(names.__class__, tuple)
        if error is not None:
            self.assertIs(error.__class__, Ratio)
        return result

    def test_example(self):
        self.assertEqual(self.best(OFFER, B, 1), (5, ("z",)))
        self.assertEqual(self.best(OFFER, B, 2), (3, ("x", "y")))
        self.assertEqual(self.best(OFFER, B, 0), (None, ()))

    def test_a_count_of_0(self):
        self.assertEqual(self.best(OFFER, nothing(AB), 0), (0, ()))
        self.assertEqual(self.best(OFFER, A, 0), (None, ()))

    def test_more_than_there_are_rows(self):
        for count in (3, 4, 5, 6, 10 ** 30):
            self.assertEqual(self.best(OFFER, B, count), (3, ("x", "y")))
            self.assertEqual(self.best(question=A - B, offer=OFFER, count=count), (4, ("x", "y")))

    def test_none_for_all_choices(self):
        offer = Offer(AB, [("x", Run(A, 1), 0), ("y", Run(2 * A, 1), 0)])
        for count in range(4):
            self.assertEqual(self.best(offer, B, count), (None, ()))

    def test_ties(self):
        offer = Offer(AB, [("d", Run(A, 1), 2), ("c", Run(A, 1), 1), ("b", Run(-A, 1), 1), ("a", Run(2 * A, 3), 0)])
        self.assertEqual(self.best(offer, A, 1), (1, ("b",)))
        self.assertEqual(self.best(offer, A, 4), (1, ("b",)))
        free = Offer(AB, [("q", Run(A, 1), 5), ("p", Run(B, 1), 0), ("r", Run(A + B, 0), 0)])
        self.assertEqual(self.best(free, A, 3), (1, ("p", "r")))
        self.assertEqual(self.best(free, A, 1), (1, ("q",)))
        self.assertEqual(self.best(free, nothing(AB), 3), (0, ()))

    def test_a_second_way(self):
        seen = set()
        for offer, question in offers(175, 40):
            costs = {name: cost for name, _, cost in offer.rows}
            for count in range(7):
                found = []
                for many in range(min(count, len(costs)) + 1):
                    for names in combinations(sorted(costs), many):
                        error = second_least_error(offer.series_of(names), question, 0)
                        key = (sum(costs[name] for name in names), many, names)
                        found.append(((error is None, error or 0), key, error))
                _, (_, _, names), error = min(found)
                result = self.best(offer, question, count)
                self.assertEqual((None if result[0] is None else fraction(result[0]), result[1]), (error, names))
                seen.add(len(names))
        self.assertGreater(len(seen), 3)

    def test_asking_one_run_after_the_other_does_not_help(self):
        maker = Maker(176)
        for offer, question in offers(177, 30):
            count = maker.chance.randint(0, 5)
            error, names = self.best(offer, question, count)
            made = bare(offer, chooser(offer, count))
            other = least_error(offer.series_of(made), question)
            self.assertTrue(other is None or (error is not None and error <= other))
            if error is not None:
                bound = bound_of(offer.series_of(names), question)
                self.assertEqual(bound.error, error)

    def test_no_count(self):
        for count in (-1, -10 ** 30, *NO_INTEGERS):
            self.refused(NoCount, (), best_of, OFFER, A, count)

    def test_other_effects_come_first(self):
        for question in OTHERS:
            for count in (0, 1, -1, None, True):
                self.refused(OtherEffects, (), best_of, OFFER, question, count)


if __name__ == "__main__":
    unittest.main()
