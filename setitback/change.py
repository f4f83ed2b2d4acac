"""What it costs that the other form changes: on a line, where one machine is cheapest, and by any table."""

from setitback.anyvalue import are_within, is_below, is_row, is_sequence, is_whole, is_within
from setitback.bonds import check_bond, check_filling, check_side
from setitback.errors import Refused
from setitback.finite import check_even_weight, machine_out_of, parts_of_machine
from setitback.forms import MOST_FILLINGS
from setitback.machines import bonded
from setitback.pairing import cheapest_pairing
from setitback.weaving import copies, showing

MOST_COST = 10 ** 9
# A cost tells what it is to go by -5 to 5: its middle item is what it is to stay.
STAYING = MOST_FILLINGS - 1


def is_cost(value):
    """Whether any value is a cost."""
    return is_row(value, 2 * STAYING + 1) and are_within(value, -MOST_COST, MOST_COST)


def check_cost(value):
    """Any value as a cost, a tuple; Refused if it is none."""
    if not is_cost(value):
        raise Refused(value)
    return tuple(value)


def bends(cost):
    """Ascending the distances at which a cost is not convex."""
    places = range(1, len(cost) - 1)
    return [at - STAYING for at in places if 2 * cost[at] > cost[at - 1] + cost[at + 1]]


def is_convex(cost):
    """Whether twice what a distance costs is never more than what the two beside it cost together."""
    return not bends(check_cost(cost))


def bent(cost):
    """Two lines that are cheaper crosswise than in order; None if the cost is convex."""
    found = bends(check_cost(cost))
    if not found:
        return None
    begin = max(0, -found[0])
    end = begin + found[0]
    return (begin, begin + 1), (end, end + 1)


def is_line(value, many):
    """Whether any value is a line of numbers below many."""
    if not is_sequence(value) or len(value) == 0 or not all([is_below(filling, many) for filling in value]):
        return False
    return all([value[at - 1] <= value[at] for at in range(1, len(value))])


def check_lines(one, other, many):
    """Any values as two lines of one length of numbers below many; Refused with the one that is none."""
    if not is_line(one, many):
        raise Refused(one)
    if not is_line(other, many) or len(other) != len(one):
        raise Refused(other)
    return tuple(one), tuple(other)


def line_change(cost, one, other):
    """What it costs to lead one line to the other in order."""
    cost = check_cost(cost)
    one, other = check_lines(one, other, MOST_FILLINGS)
    return sum([cost[STAYING + end - begin] for begin, end in zip(one, other)])


def line_of(bond, weight, side, filling):
    """The fillings of the other side in the pairs with this one, each as many times as its weight."""
    bond = check_bond(bond)
    weight = check_even_weight(bond, weight)
    filling = check_filling(filling, bond[check_side(side)])
    return tuple([pair[1 - side] for pair in copies(bond[2], weight) if pair[side] == filling])


def is_table(value):
    """Whether any value is a table."""
    if not is_sequence(value) or not 1 <= len(value) <= MOST_FILLINGS:
        return False
    return all([is_row(row, len(value)) and are_within(row, -MOST_COST, MOST_COST) for row in value])


def check_table(value):
    """Any value as a table, of tuples; Refused if it is none."""
    if not is_table(value):
        raise Refused(value)
    return tuple([tuple(row) for row in value])


def table_for(many, value):
    """Any value as a table of so many fillings, of tuples; Refused if it is none."""
    table = check_table(value)
    if len(table) != many:
        raise Refused(value)
    return table


def table_of(cost, size):
    """The table of a cost for so many fillings."""
    cost = check_cost(cost)
    if not is_within(size, 1, MOST_FILLINGS):
        raise Refused(size)
    return tuple([tuple([cost[STAYING + end - begin] for end in range(size)]) for begin in range(size)])


def change(machine, side, one, other, table):
    """What it costs, over all situations that show `one` on a side, that the other form changes when `other` is set."""
    bond, machine = bonded(machine)
    many = bond[check_side(side)]
    one, other = check_filling(one, many), check_filling(other, many)
    table = table_for(bond[1 - side], table)
    kinds, moves = machine[1:]
    ways = [(kind, kinds[rows[side][other]]) for kind, rows in zip(kinds, moves) if kind[side] == one]
    return sum([table[begin[1 - side]][end[1 - side]] for begin, end in ways])


def costs_between(table, one, other):
    """By place of one line, by place of the other one, what a table tells of the two."""
    return [[table[begin][end] for end in other] for begin in one]


def check_table_and_lines(table, one, other):
    """Any values as a table and two lines of one length of its fillings, of tuples; Refused with what is none."""
    table = check_table(table)
    one, other = check_lines(one, other, len(table))
    return table, one, other


def cheapest(table, one, other):
    """(What the cheapest pairing of two lines costs, the pairing, prices that show that no other one is cheaper)."""
    table, one, other = check_table_and_lines(table, one, other)
    pairing, left, right = cheapest_pairing(costs_between(table, one, other))
    return sum(left) + sum(right), pairing, (left, right)


def is_pairing(value, many):
    """Whether any value has each of so many places once."""
    return is_row(value, many) and all([is_below(place, many) for place in value]) and len(set(value)) == many


def are_prices(value, costs):
    """Whether any value is prices by place of either line, two never together more than the two cost."""
    if not is_row(value, 2) or not all([is_row(row, len(costs)) for row in value]):
        return False
    if not all([is_whole(price) for row in value for price in row]):
        return False
    return all([
        price + more <= cost for price, row in zip(value[0], costs) for more, cost in zip(value[1], row)
    ])


def cheapest_holds(table, one, other, value):
    """Whether any value is the cost of a cheapest pairing, such a pairing, and prices that come to this cost."""
    table, one, other = check_table_and_lines(table, one, other)
    costs = costs_between(table, one, other)
    if not is_row(value, 3) or not is_pairing(value[1], len(one)) or not are_prices(value[2], costs):
        return False
    paid = sum([sum(prices) for prices in value[2]])
    return is_whole(value[0]) and value[0] == paid == sum([row[place] for row, place in zip(costs, value[1])])


def check_mirrored(many, value):
    """Any value as a table of so many fillings, there as back, of tuples; Refused if it is none."""
    table = table_for(many, value)
    if table != tuple(zip(*table)):
        raise Refused(value)
    return table


def join_cheaply(kinds, moves, side, lots, table):
    """Lead situations that show one filling of a side to those that show another one, and these back, at least cost."""
    for one, near in enumerate(lots):
        for other in range(one):
            far = lots[other]
            begins, ends = [[kinds[situation][1 - side] for situation in lot] for lot in (near, far)]
            pairing = cheapest_pairing(costs_between(table, begins, ends))[0]
            for situation, place in zip(near, pairing):
                moves[situation][side][other] = far[place]
                moves[far[place]][side][one] = situation


def cheap_machine(bond, weight, start, rows, columns):
    """A machine with the start and kinds of `machine_of` whose changes are all as cheap as the cheapest pairing."""
    bond, weight, pair = parts_of_machine(bond, weight, start)
    rows = check_mirrored(bond[0], rows)
    columns = check_mirrored(bond[1], columns)
    begin, kinds = machine_out_of(bond, weight, pair)[:2]
    moves = [[[situation] * many for many in bond[:2]] for situation in range(len(kinds))]
    for side, table in ((0, columns), (1, rows)):
        join_cheaply(kinds, moves, side, showing(kinds, side, bond[side]), table)
    return begin, kinds, tuple([tuple([tuple(row) for row in leads]) for leads in moves])
