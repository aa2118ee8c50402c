"""[27]: the linear programs that everything rests on."""

import unittest
from itertools import product

from anymethod.programs import Column, solved
from anymethod.ratios import Ratio
from tests.helping import MethodCase
from tests.second import Maker, fraction


def ratios(*numbers):
    return tuple(number if isinstance(number, Ratio) else Ratio(number) for number in numbers)


def column(weights, plus, minus):
    return Column(ratios(*weights), *ratios(plus, minus))


def total(numbers, others):
    return sum(fraction(one) * fraction(other) for one, other in zip(numbers, others))


class ProgramTest(MethodCase):
    def holds(self, parts, target):
        """The answer shows itself what it says; its kind is returned."""
        target = ratios(*target)
        answer = solved([column(*part) for part in parts], target)
        for number in [*(answer.amounts or []), *(answer.world or [])]:
            self.assertIs(number.__class__, Ratio)
        if answer.amounts is None:
            self.assertEqual([total(weights, answer.world) for weights, _, _ in parts], [0] * len(parts))
            self.assertEqual(total(target, answer.world), 1)
            return "missed"
        self.assertEqual(len(answer.amounts), len(parts))
        made = [total(answer.amounts, [weights[at] for weights, _, _ in parts]) for at in range(len(target))]
        price = sum(abs(fraction(amount)) * fraction(plus if amount > 0 else minus)
                    for amount, (_, plus, minus) in zip(answer.amounts, parts))
        if answer.world is None:
            self.assertEqual(made, [0] * len(target))
            self.assertLess(price, 0)
            return "falling"
        self.assertEqual(made, [fraction(number) for number in target])
        self.assertEqual(price, total(target, answer.world))
        for weights, plus, minus in parts:
            self.assertLessEqual(total(weights, answer.world), fraction(plus))
            self.assertGreaterEqual(total(weights, answer.world), -fraction(minus))
        return "least"

    def test_each_kind(self):
        self.assertEqual(self.holds([((1, 0), 1, 1), ((1, 1), 2, 2)], (0, 1)), "least")
        self.assertEqual(self.holds([((1, 0), 1, 1), ((2, 0), 2, 2)], (0, 1)), "missed")
        self.assertEqual(self.holds([((1, 0), 1, 1), ((1, 0), -2, 3)], (1, 0)), "falling")
        self.assertEqual(self.holds([], (0,)), "least")
        self.assertEqual(self.holds([], (0, -3)), "missed")
        self.assertEqual(self.holds([((0,), 0, 0)], (0,)), "least")
        self.assertEqual(self.holds([((0,), -1, 2)], (0,)), "falling")
        self.assertEqual(self.holds([((0,), 2, -1)], (0,)), "falling")
        self.assertEqual(self.holds([((0,), -1, 2)], (1,)), "missed")

    def test_fractions(self):
        third = Ratio(1, 3)
        self.assertEqual(self.holds([((third, 2), third, 1), ((-1, Ratio(7, 5)), 0, 2)], (third, Ratio(-2, 9))), "least")
        self.assertEqual(self.holds([((third,), third, -third), ((Ratio(1, 2),), third, Ratio(-1, 6))], (1,)), "falling")

    def test_all_small_ones(self):
        sides = ((0, 0), (1, 0), (-1, 1), (1, -1), (2, 1))
        for one, other in product(product((-1, 0, 2), (0, 1), sides), repeat=2):
            parts = [((one[0], one[1]), *one[2]), ((other[0], other[1]), *other[2])]
            self.holds(parts, (1, -1))
            self.holds([*parts, ((1, 1), 1, 1)], (0, 1))

    def test_many(self):
        maker = Maker(21)
        kinds = {"least": 0, "missed": 0, "falling": 0}
        for count in range(600):
            size = 1 + count % 4
            parts = []
            for _ in range(count % 9):
                reading, slip = maker.number(), abs(maker.number())
                parts.append((maker.question(tuple("abcd"[:size])).weights, slip + reading, slip - reading))
            kinds[self.holds(parts, maker.question(tuple("abcd"[:size])).weights)] += 1
        self.assertGreater(min(kinds.values()), 30)

    def test_ties(self):
        # With these costs, which are all 0, every step may be one on the spot.
        maker = Maker(22, most=1)
        for count in range(200):
            size = 2 + count % 3
            parts = [(maker.question(tuple("abcd"[:size])).weights, 0, 0) for _ in range(8)]
            self.holds(parts, maker.question(tuple("abcd"[:size])).weights)


if __name__ == "__main__":
    unittest.main()
