"""Whether a thing is a table of numbers for all sets of places, by which no order has less."""

from drawnweb.leasts import all_sets, spread_costs, width_costs
from drawnweb.things import is_tuple_of, is_whole


def shows_width(web, many, thing):
    """Whether the thing, which may be anything, is a table for width with many or more for all places."""
    return are_numbers(web, thing) and is_table(width_costs(web), thing) and thing[-1] >= many


def shows_spread(web, many, thing):
    """Whether the thing, which may be anything, is a table for spread with many or more for all places."""
    return are_numbers(web, thing) and is_table(spread_costs(web), thing) and thing[-1] >= many


def are_numbers(web, thing):
    """Whether the thing has a whole number for each set of places."""
    return is_tuple_of(thing, len(all_sets(web))) and all([is_whole(number) for number in thing])


def is_table(costs, table):
    """Whether no number of these is greater than the costs let (costs as leasts counts them)."""
    if table[0] > 0:
        return False
    for number, pairs in enumerate(costs):
        for bit, cost in pairs:
            if table[number] > max(table[number - bit], cost):
                return False
    return True
