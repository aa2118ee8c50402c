"""Small linear programs, solved exactly, with integers alone.

A program asks for amounts of its columns with which the columns' weights add up to the target, at the least cost. All
of it is computed without changing any list once it is made, because operators compute with it.
"""

from math import lcm

from anymethod.ratios import Ratio


class Column:
    """Some weights, what one unit of them costs (plus), and what one unit of their negatives costs (minus).

    Plus and minus together are at least 0. All of them are kept as integers, multiplied by the scale.
    """

    def __init__(self, weights, plus, minus):
        numbers = [*weights, plus, minus]
        self.scale = common_bottom(numbers)
        whole = as_integers(numbers, self.scale)
        self.weights = whole[:-2]
        self.plus = whole[-2]
        self.minus = whole[-1]


class Answer:
    """What a program comes to: amounts, one for each column, and a world, a number for each row.

    With both, the amounts make the target at the least cost, no column's weights times the world are more than its
    plus or less than the negative of its minus, and the target times the world is the least cost.
    Without amounts (None) there are none: each column times the world is 0, and the target times the world is 1.
    Without a world (None) the cost falls forever: the amounts make only weights 0, at a cost below 0.
    """

    def __init__(self, amounts, world):
        self.amounts = amounts
        self.world = world


class Table:
    """A program between two steps.

    A row has an entry for each column, one for each row of the program at the start, and one for the target, all of
    them integers over the scale. The basis has for each row the side that the row solves for, or None. Each column
    has two sides: `2 * place` is its plus, `2 * place + 1` its minus, whose entries are the negatives.
    """

    def __init__(self, rows, basis, scale):
        self.rows = rows
        self.basis = basis
        self.scale = scale


def common_bottom(numbers):
    common = 1
    for number in numbers:
        common = lcm(common, number.bottom)
    return common


def as_integers(numbers, scale):
    return [number.top * (scale // number.bottom) for number in numbers]


def solved(columns, target):
    """The Answer of the program with these columns and this target, a sequence of Ratios."""
    scale = common_bottom(target)
    table = eliminated(columns, as_integers(target, scale))
    away = missed_world(table, len(columns), scale)
    if away is not None:
        return Answer(None, away)
    table = begun(table)
    while True:
        prices = row_prices(table, columns, len(target))
        side = cheaper_side(table, columns, prices)
        if side is None:
            world = tuple([Ratio(price, table.scale) for price in prices])
            return Answer(least_amounts(table, columns, scale), world)
        at = leaving_row(table, side)
        if at is None:
            return Answer(falling_amounts(table, columns, side), None)
        table = stepped(table, at, side)


def eliminated(columns, target):
    """The table after elimination: as many rows as possible solve for a side."""
    size = len(target)
    rows = [
        [column.weights[at] for column in columns] + [1 if at == other else 0 for other in range(size)] + [target[at]]
        for at in range(size)
    ]
    table = Table(rows, [None] * size, 1)
    for place in range(len(columns)):
        at = free_row(table, place)
        if at is not None:
            table = stepped(table, at, 2 * place if table.rows[at][place] > 0 else 2 * place + 1)
    return table


def free_row(table, place):
    """The first row that solves for nothing yet and can solve for this column; None if there is none."""
    for at, row in enumerate(table.rows):
        if table.basis[at] is None and row[place] != 0:
            return at
    return None


def missed_world(table, many, scale):
    """A world in which all columns are worth 0 and the target 1; None if the columns make the target."""
    for row, side in zip(table.rows, table.basis):
        if side is None and row[-1] != 0:
            return tuple([Ratio(number * scale, row[-1]) for number in row[many:-1]])
    return None


def begun(table):
    """The table with the rows that solve for a side alone, each for the side whose amount is at least 0."""
    rows = []
    basis = []
    for row, side in zip(table.rows, table.basis):
        if side is not None and row[-1] >= 0:
            rows.append(row)
            basis.append(side)
        elif side is not None:
            rows.append([-number for number in row])
            basis.append(other_side(side))
    return Table(rows, basis, table.scale)


def other_side(side):
    return side + 1 if side % 2 == 0 else side - 1


def side_entry(row, side):
    return row[side // 2] if side % 2 == 0 else -row[side // 2]


def side_cost(columns, side):
    column = columns[side // 2]
    return column.plus if side % 2 == 0 else column.minus


def row_prices(table, columns, size):
    """For each row of the program what a unit of it is worth, over the scale, so that the basis is worth its cost."""
    costs = [side_cost(columns, side) for side in table.basis]
    many = len(columns)
    return [sum([cost * row[many + at] for cost, row in zip(costs, table.rows)]) for at in range(size)]


def cheaper_side(table, columns, prices):
    """The first side that costs less than it is worth; None if there is none, so that the amounts are the best."""
    for place, column in enumerate(columns):
        worth = sum([price * weight for price, weight in zip(prices, column.weights)])
        if column.plus * table.scale < worth:
            return 2 * place
        if column.minus * table.scale < -worth:
            return 2 * place + 1
    return None


def leaving_row(table, side):
    """The row that limits the side most; None if none does.

    Of equal ones it is the one with the first side, as Bland's rule asks: otherwise the steps might never end.
    """
    best = None
    for at, row in enumerate(table.rows):
        if side_entry(row, side) > 0 and (best is None or is_ahead(table, at, best, side)):
            best = at
    return best


def is_ahead(table, at, best, side):
    limit = table.rows[at][-1] * side_entry(table.rows[best], side)
    best_limit = table.rows[best][-1] * side_entry(table.rows[at], side)
    return limit < best_limit or (limit == best_limit and table.basis[at] < table.basis[best])


def stepped(table, at, side):
    """The table in which this row solves for the side; its entry there is above 0."""
    pivot_row = table.rows[at]
    rows = [
        row if place == at else combined_row(row, pivot_row, side, table.scale) for place, row in enumerate(table.rows)
    ]
    basis = [side if place == at else old for place, old in enumerate(table.basis)]
    return Table(rows, basis, side_entry(pivot_row, side))


def combined_row(row, pivot_row, side, scale):
    # All entries are minors of what the program started with. Therefore the
    # division leaves no rest, and the entries stay small.
    pivot = side_entry(pivot_row, side)
    factor = side_entry(row, side)
    return [(one * pivot - factor * two) // scale for one, two in zip(row, pivot_row)]


def least_amounts(table, columns, scale):
    """The amounts of the basis, one for each column as it was given."""
    sides = {side: row[-1] for side, row in zip(table.basis, table.rows)}
    return column_amounts(sides, columns, table.scale * scale)


def falling_amounts(table, columns, side):
    """The amounts that change together when the side grows."""
    sides = {old: -side_entry(row, side) for old, row in zip(table.basis, table.rows)}
    return column_amounts({**sides, side: table.scale}, columns, 1)


def column_amounts(sides, columns, scale):
    amounts = []
    for place, column in enumerate(columns):
        amount = sides.get(2 * place, 0) - sides.get(2 * place + 1, 0)
        amounts.append(Ratio(amount * column.scale, scale))
    return amounts
