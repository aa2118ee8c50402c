"""A second way to compute what the package computes: by going through all small sets of runs, with Fractions."""

import random
from fractions import Fraction
from itertools import combinations, product

from anymethod.questions import Question, nothing
from anymethod.ratios import Ratio
from anymethod.runs import Run
from anymethod.series import Series

EFFECTS = ("a", "b", "c", "d")


def fraction(number):
    return Fraction(number.top, number.bottom) if isinstance(number, Ratio) else Fraction(number)


def weights_of(question):
    return tuple(fraction(weight) for weight in question.weights)


def solution(columns, target):
    """The only numbers with which the columns add up to the target; None if there are none or many."""
    rows = [[column[at] for column in columns] + [target[at]] for at in range(len(target))]
    solved = 0
    for place in range(len(columns)):
        pivot = next((at for at in range(solved, len(rows)) if rows[at][place] != 0), None)
        if pivot is None:
            return None
        rows[solved], rows[pivot] = rows[pivot], rows[solved]
        rows[solved] = [number / rows[solved][place] for number in rows[solved]]
        for at, row in enumerate(rows):
            if at != solved:
                rows[at] = [one - row[place] * two for one, two in zip(row, rows[solved])]
        solved += 1
    if any(row[-1] != 0 for row in rows[solved:]):
        return None
    return [row[-1] for row in rows[:solved]]


def basic_combinations(series, target, names):
    """All combinations of independent runs of these names that make the target (weights)."""
    found = []
    for size in range(len(target) + 1):
        for chosen in combinations(names, size):
            numbers = solution([weights_of(series[name].question) for name in chosen], target)
            if numbers is not None:
                found.append(dict(zip(chosen, numbers)))
    return found


def cost(series, combination):
    return sum(abs(value) * fraction(series[name].slip) for name, value in combination.items())


def lost_sets(series, count):
    return list(combinations(series.names(), min(count, len(series))))


def second_least_error(series, question, wild):
    """The second fact of [18]; a least cost is that of a combination of independent runs."""
    worst = Fraction(0)
    found = basic_combinations(series, weights_of(question), series.names())
    for lost in lost_sets(series, 2 * wild):
        costs = [cost(series, combination) for combination in found if not set(lost) & set(combination)]
        if not costs:
            return None
        worst = max(worst, min(costs))
    return worst


def dependencies(series, names):
    """All combinations of these runs that make the question of zeros and of which no run can be left out."""
    found = []
    for last in names:
        target = weights_of(series[last].question)
        for combination in basic_combinations(series, target, [name for name in names if name != last]):
            found.append({last: Fraction(-1), **combination})
    return found


def excess(series, readings, combination):
    """By how much the readings go beyond what the slips explain; above 0 is a contradiction."""
    total = sum(value * fraction(readings[name]) for name, value in combination.items())
    return abs(total) - cost(series, combination)


def possible(series, target, readings, names):
    """The values that these runs leave to the question: None, (None, None) or the two ends."""
    if any(excess(series, readings, combination) > 0 for combination in dependencies(series, names)):
        return None
    lows, highs = [], []
    for combination in basic_combinations(series, target, names):
        middle = sum(value * fraction(readings[name]) for name, value in combination.items())
        lows.append(middle - cost(series, combination))
        highs.append(middle + cost(series, combination))
    return (max(lows), min(highs)) if lows else (None, None)


def left_sets(series, wild):
    return [[name for name in series.names() if name not in lost] for lost in lost_sets(series, wild)]


def union(pairs):
    """The ascending pairs that do not touch, of the pairs of ends; (None, None) is everything, None is nothing."""
    pairs = [pair for pair in pairs if pair is not None]
    if (None, None) in pairs:
        return [(None, None)]
    joined = []
    for low, high in sorted(pairs):
        if joined and low <= joined[-1][1]:
            joined[-1] = (joined[-1][0], max(high, joined[-1][1]))
        else:
            joined.append((low, high))
    return joined


def second_stretches(series, question, readings, wild):
    return union(possible(series, weights_of(question), readings, names) for names in left_sets(series, wild))


def second_surely_wild(series, readings, wild):
    """None if no world fits."""
    zeros = weights_of(nothing(series.effects))
    if all(possible(series, zeros, readings, names) is None for names in left_sets(series, wild)):
        return None
    names = []
    for name in series.names():
        others = [other for other in series.names() if other != name]
        lots = combinations(others, min(wild, len(others)))
        kept = [[other for other in series.names() if other not in lost] for lost in lots]
        if all(possible(series, zeros, readings, left) is None for left in kept):
            names.append(name)
    return names


class Maker:
    """Makes questions and series that are the same in every run of the tests."""

    def __init__(self, seed, most=3):
        self.chance = random.Random(seed)
        self.most = most

    def number(self):
        return Ratio(self.chance.randint(-self.most, self.most), self.chance.choice((1, 1, 1, 2, 3)))

    def question(self, effects):
        return Question(effects, [self.number() for _ in effects])

    def run(self, effects):
        return Run(self.question(effects), abs(self.number()))

    def series(self, effects, count):
        series = Series(effects)
        names = ["r" + str(at) for at in range(count)]
        self.chance.shuffle(names)
        for name in names:
            series[name] = self.run(effects)
        return series

    def readings(self, series, wild=0, spread=1):
        """What the runs read in some world, with errors of up to so many times their slip, and some of them wild."""
        world = [self.number() for _ in series.effects]
        readings = {}
        for name in series.names():
            slip = series[name].slip * Ratio(self.chance.randint(-spread * 4, spread * 4), 4)
            readings[name] = series[name].question.at(world) + slip
        for name in self.chance.sample(series.names(), min(wild, len(series))):
            readings[name] += self.chance.randint(-20, 20)
        return readings

    def cases(self, count, most_effects=4, most_runs=8):
        """So many pairs of a series and a question, small ones more often than great ones."""
        for _ in range(count):
            effects = EFFECTS[:self.chance.randint(1, most_effects)]
            yield self.series(effects, self.chance.randint(0, most_runs)), self.question(effects)


def turned(series):
    """The same series, put in in the opposite order."""
    other = Series(list(series.effects))
    for name in reversed(series.names()):
        other[name] = series[name]
    return other


def second_greatest_answer(series, question, wild):
    """The first fact of [18] for two effects: the greatest answer at the corners where two runs are at their limits."""
    worst = Fraction(0)
    target = weights_of(question)
    for lost in lost_sets(series, 2 * wild):
        limits = [(weights_of(series[name].question), fraction(series[name].slip))
                  for name in series.names() if name not in lost]
        if not is_limited(limits, target):
            return None
        # A line across the others closes the strip that parallel runs leave; the question does not change along it.
        across = [((-target[1], target[0]), Fraction(0))]
        for (one, first), (other, second) in combinations(limits + across, 2):
            bottom = one[0] * other[1] - one[1] * other[0]
            for one_sign, other_sign in ((1, 1), (1, -1), (-1, 1), (-1, -1)):
                if bottom != 0:
                    top, side = one_sign * first, other_sign * second
                    world = ((top * other[1] - one[1] * side) / bottom, (one[0] * side - top * other[0]) / bottom)
                    if all(abs(answer(limit, world)) <= slip for limit, slip in limits):
                        worst = max(worst, answer(target, world))
    return worst


def answer(weights, world):
    return sum(weight * value for weight, value in zip(weights, world))


def is_limited(limits, target):
    """Whether the question is parallel to a run, or two runs are not parallel."""
    weights = [weight for weight, _ in limits if any(weight)]
    if not any(target):
        return True
    crossing = any(one[0] * other[1] != one[1] * other[0] for one, other in combinations(weights, 2))
    return crossing or any(one[0] * target[1] == one[1] * target[0] for one in weights)


def second_price(series, budgets, offset, weights):
    """The first fact of [49]: the least of the sums is found where as many of its bends meet as there are budgets."""
    sizes = {name: abs(fraction(weight)) for name, weight in weights.items()}
    bends = [([int(name in budget.members) for budget in budgets], size) for name, size in sizes.items()]
    bends += [([int(place == other) for other in range(len(budgets))], Fraction(0)) for place in range(len(budgets))]
    best = None
    for chosen in combinations(bends, len(budgets)):
        columns = [[Fraction(row[place]) for row, _ in chosen] for place in range(len(budgets))]
        prices = solution(columns, [size for _, size in chosen])
        if prices is not None and all(price >= 0 for price in prices):
            total = second_noise_cost(series, budgets, offset, weights, prices)
            best = total if best is None else min(best, total)
    return best


def second_noise_cost(series, budgets, offset, weights, prices):
    """The sum of the first fact of [49]."""
    total = fraction(offset) * abs(sum(fraction(weight) for weight in weights.values()))
    total += sum(fraction(price) * fraction(budget.most) for price, budget in zip(prices, budgets))
    for name, weight in weights.items():
        covered = sum(fraction(price) for price, budget in zip(prices, budgets) if name in budget.members)
        total += fraction(series[name].slip) * max(0, abs(fraction(weight)) - covered)
    return total


def is_let_with(series, budgets, errors, shift):
    apart = {name: abs(fraction(errors[name]) - shift) for name in series.names()}
    if any(apart[name] > fraction(series[name].slip) for name in apart):
        return False
    return all(sum(apart[name] for name in budget.members) <= fraction(budget.most) for budget in budgets)


def second_lets(series, budgets, offset, errors):
    """Whether the errors are let: if some shift does, then the least one does, and some limit is reached there."""
    shifts = [-fraction(offset)]
    lots = [((name,), series[name].slip) for name in series.names()]
    for members, most in [*lots, *((budget.members, budget.most) for budget in budgets)]:
        for signs in product((1, -1), repeat=len(members)):
            if sum(signs) != 0:
                total = sum(sign * fraction(errors[name]) for sign, name in zip(signs, members))
                shifts.append((total - fraction(most)) / sum(signs))
    return any(abs(shift) <= fraction(offset) and is_let_with(series, budgets, errors, shift) for shift in shifts)


def second_noise_error(series, budgets, offset, question):
    """The second fact of [49]: the greatest answer at the corners of the worlds, each with its shift, that are let."""
    target = weights_of(question)
    if not basic_combinations(series, target, series.names()):
        return None
    size = len(target)
    limits = [((0,) * size + (1,), fraction(offset))]
    lots = [((name,), series[name].slip) for name in series.names()]
    for members, most in [*lots, *((budget.members, budget.most) for budget in budgets)]:
        for signs in product((1, -1), repeat=len(members)):
            rows = [[sign * weight for weight in weights_of(series[name].question)] for sign, name in zip(signs, members)]
            limits.append((tuple(sum(column) for column in zip(*rows)) + (-sum(signs),), fraction(most)))
    # Where the runs leave a direction open, the question does not change along it.
    for world in silent_worlds([weights[:-1] for weights, _ in limits], size):
        limits.append((tuple(world) + (0,), Fraction(0)))
    best = Fraction(0)
    for chosen in combinations(limits, size + 1):
        for signs in product((1, -1), repeat=size):
            ends = [most * sign for (_, most), sign in zip(chosen, (1, *signs))]
            columns = [[Fraction(weights[place]) for weights, _ in chosen] for place in range(size + 1)]
            point = solution(columns, ends)
            if point is not None and all(abs(answer(weights, point)) <= most for weights, most in limits):
                best = max(best, abs(answer(target, point[:-1])))
    return best


def silent_worlds(rows, size):
    """Worlds of which all that answer 0 to all rows are sums of multiples."""
    found = []
    firsts = {}
    for row in rows:
        rest = [Fraction(number) for number in row]
        for place, other in firsts.items():
            rest = [one - rest[place] * two for one, two in zip(rest, other)]
        place = next((at for at in range(size) if rest[at] != 0), None)
        if place is not None:
            rest = [number / rest[place] for number in rest]
            firsts = {at: [one - other[place] * two for one, two in zip(other, rest)] for at, other in firsts.items()}
            firsts[place] = rest
    for at in range(size):
        if at not in firsts:
            found.append([-firsts[place][at] if place in firsts else Fraction(int(place == at)) for place in range(size)])
    return found
