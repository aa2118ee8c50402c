"""What a noise lets, what a combination costs with it, and the least error with it.

The errors that a noise lets are those of its runs around a number that all of them share, the shift.
"""

from anymethod.programs import Column, solved
from anymethod.questions import check_same_effects, nothing
from anymethod.ratios import Ratio
from anymethod.weighing import made_question


class Edge:
    """A limit to the errors: the sum of some of them less the shift, each with its sign, is at most a number.

    The place is that of the budget that sets the limit; it is None for the limit of a run. The limit of the shift
    itself has no signs. The column is the limit as a program takes it, for a world with the shift behind it.
    """

    def __init__(self, signs, place, column):
        self.signs = signs
        self.place = place
        self.column = column


class Least:
    """What is found about a question with a noise; the error, the weights and the prices are None if none bounds it."""

    def __init__(self, error, weights, prices, world, shift):
        self.error = error
        self.weights = weights
        self.prices = prices
        self.world = world
        self.shift = shift


def found_with(noise, question):
    """The least error with the noise, and what shows it in both directions."""
    check_same_effects(noise, question)
    edges = [shift_edge(noise), *[run_edge(noise, name) for name in noise.series.names()]]
    while True:
        answer = solved([edge.column for edge in edges], [*question.weights, Ratio(0)])
        *world, shift = answer.world
        if answer.amounts is None:
            return Least(None, None, None, tuple(world), shift)
        # A budget sets a limit for all signs of its members. Only those that matter are ever looked at.
        broken = broken_edges(noise, world, shift)
        if broken == []:
            weights = edge_weights(noise, edges, answer.amounts)
            prices = edge_prices(noise, edges, answer.amounts)
            return Least(question.at(world), weights, prices, tuple(world), shift)
        edges = edges + broken


def shift_edge(noise):
    return Edge({}, None, Column([*nothing(noise.effects).weights, Ratio(1)], noise.offset, noise.offset))


def run_edge(noise, name):
    return signed_edge(noise, {name: 1}, None, noise.series[name].slip)


def signed_edge(noise, signs, place, most):
    weights = [*made_question(noise.series, signs).weights, Ratio(-sum(signs.values()))]
    return Edge(signs, place, Column(weights, most, most))


def broken_edges(noise, world, shift):
    """For each budget that the answers in the world break, the limit that they break most."""
    apart = {name: noise.series[name].question.at(world) - shift for name in noise.series.names()}
    broken = []
    for place, budget in enumerate(noise.budgets):
        if sum([abs(apart[name]) for name in budget.members]) > budget.most:
            signs = {name: -1 if apart[name] < 0 else 1 for name in budget.members}
            broken = [*broken, signed_edge(noise, signs, place, budget.most)]
    return broken


def edge_weights(noise, edges, amounts):
    """The combination of runs that the amounts of the edges come to."""
    weights = {}
    for name in noise.series.names():
        weight = sum([amount * edge.signs.get(name, 0) for edge, amount in zip(edges, amounts)])
        if weight != 0:
            weights = {**weights, name: weight}
    return weights


def edge_prices(noise, edges, amounts):
    """For each budget how much of it the amounts of the edges take."""
    return tuple([
        sum([abs(amount) for edge, amount in zip(edges, amounts) if edge.place == place], start=Ratio(0))
        for place in range(len(noise.budgets))
    ])


def greatest_sum(noise, weights):
    """The greatest sum of the weights times errors that are let."""
    names = list(weights)
    sizes = [abs(weights[name]) for name in names]
    # The runs' errors less the shift have the signs of the weights: so only their sizes are looked for.
    columns = [size_column(names, [name], noise.series[name].slip) for name in names]
    columns = columns + [size_column(names, budget.members, budget.most) for budget in noise.budgets]
    best = solved(columns, sizes).world
    shifted = noise.offset * abs(sum([weights[name] for name in names]))
    return shifted + sum([size * part for size, part in zip(sizes, best)])


def size_column(names, members, most):
    """The limit of the sizes of the members' errors: they are 0 or more, and at most this together."""
    return Column([Ratio(1) if name in members else Ratio(0) for name in names], most, Ratio(0))


def price_with(noise, weights, prices):
    """What the weights cost if a unit of each budget has this price."""
    cost = noise.offset * abs(sum([weights[name] for name in weights]))
    for name in weights:
        excess = abs(weights[name]) - price_of_member(noise, name, prices)
        if excess > 0:
            cost = cost + noise.series[name].slip * excess
    return cost + sum([budget.most * price for budget, price in zip(noise.budgets, prices)])


def price_of_member(noise, name, prices):
    return sum([price for budget, price in zip(noise.budgets, prices) if name in budget.members])


def are_let(noise, errors):
    """Whether there is a shift with which the errors are let."""
    low = -noise.offset
    high = noise.offset
    for slope, room in shift_limits(noise, errors):
        if slope == 0 and room < 0:
            return False
        if slope > 0 and room.over(slope) < high:
            high = room.over(slope)
        if slope < 0 and room.over(slope) > low:
            low = room.over(slope)
    return low <= high


def shift_limits(noise, errors):
    """Pairs (slope, room): with each shift whose product with each slope is at most the room the errors are let."""
    limits = []
    for name in noise.series.names():
        limits = limits + sum_limits([errors[name]], noise.series[name].slip)
    for budget in noise.budgets:
        limits = limits + sum_limits([errors[name] for name in budget.members], budget.most)
    return limits


def sum_limits(numbers, most):
    """Pairs (slope, room) that say that the distances of the numbers from the shift are at most this together.

    With the numbers up to some number counted as below the shift, and the others as above it, the sum is never more
    than that of the distances, and it is just that for one of these cuts.
    """
    limits = []
    for cut in [None, *numbers]:
        signs = [1 if cut is None or number > cut else -1 for number in numbers]
        total = sum([sign * number for sign, number in zip(signs, numbers)])
        limits = [*limits, (-sum(signs), most - total)]
    return limits


def are_let_with(noise, errors, shift):
    """Whether the errors are let with this shift."""
    apart = {name: abs(errors[name] - shift) for name in noise.series.names()}
    if any([apart[name] > noise.series[name].slip for name in apart]):
        return False
    return all([sum([apart[name] for name in budget.members]) <= budget.most for budget in noise.budgets])
