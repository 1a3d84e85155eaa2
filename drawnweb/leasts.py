"""The least widths and spreads of all orders, by tables over all sets of places.

A set's number is the sum of its places' bits; the costs of a set are a pair for each place of it:
the place's bit, and what it costs to have this place last of the set.
"""

from drawnweb.orders import spread_at, width_at
from drawnweb.webs import nears


def all_sets(web):
    """All sets of the web's places, as rising tuples, each at its number."""
    sets = [()]
    for place in web[0]:
        sets = sets + [some + (place,) for some in sets]
    return sets


def bits(web):
    """For each place, in order, the number of the set of it alone."""
    told = {}
    bit = 1
    for place in web[0]:
        told[place] = bit
        bit = bit + bit
    return told


def width_costs(web):
    """The costs of each set, by its number, counted for width."""
    ties_of = nears(web)
    bit_of = bits(web)
    return [[(bit_of[place], width_at(ties_of, some, place)) for place in some] for some in all_sets(web)]


def spread_costs(web):
    """The costs of each set, by its number, counted for spread."""
    ties_of = nears(web)
    bit_of = bits(web)
    told = []
    for some in all_sets(web):
        cost = spread_at(ties_of, some)
        told.append([(bit_of[place], cost) for place in some])
    return told


def greatest_table(costs):
    """The table of the greatest numbers that these costs let."""
    table = [0]
    for number in range(1, len(costs)):
        table.append(min([max(table[number - bit], cost) for bit, cost in costs[number]]))
    return tuple(table)


def least_of(web, costs):
    """The least number of all orders by these costs, and an order that has it."""
    table = greatest_table(costs)
    place_at = {bit: place for place, bit in bits(web).items()}
    number = len(table) - 1
    backward = []
    while number > 0:
        # Whoever reaches the table's number when last of the set may stand there; then the rest is ordered.
        last = min([(max(table[number - bit], cost), bit) for bit, cost in costs[number]])[1]
        backward.append(place_at[last])
        number -= last
    return (table[-1], tuple(backward[::-1]))


def least_width(web):
    """The least width of all orders, and an order that has it."""
    return least_of(web, width_costs(web))


def least_spread(web):
    """The least spread of all orders, and an order that has it."""
    return least_of(web, spread_costs(web))


def width_table(web):
    """The table of the greatest numbers for width."""
    return greatest_table(width_costs(web))


def spread_table(web):
    """The table of the greatest numbers for spread."""
    return greatest_table(spread_costs(web))
