"""Cuts: what holds all places of a web, and so shows that no flow is greater."""

from pagesworn.flows import Net, greatest_flow, outwards
from pagesworn.forms import is_lot, is_row


def is_lot_below(thing, beyond):
    """Whether thing is a lot of integers from 0 on that are less than beyond."""
    return is_lot(thing) and all([index < beyond for index in thing])


def is_held(web, cut, index):
    """Whether the place at index is held by a part of the cut."""
    tickets, places, cells = cut
    _, ticket, cell = web[1][index]
    return index in places or cell in cells or any([at in tickets for at in outwards(web[0], ticket)])


def is_cut(web, thing):
    """Whether thing is a cut of the web."""
    if not is_row(thing, 3) or not all([is_lot_below(part, len(rows)) for part, rows in zip(thing, web)]):
        return False
    return all([is_held(web, thing, index) for index in range(len(web[1]))])


def size_of_cut(web, cut):
    """The numbers of the tickets and of the cells of a cut, and 1 for each of its places, added."""
    tickets, places, cells = cut
    return sum([web[0][index][2] for index in tickets]) + len(places) + sum([web[2][index] for index in cells])


def least_cut(web):
    """A cut with the least size.

    No road widens a greatest flow. What roads come to is parted from the rest by tickets that are full, by
    cells that are full, and by places that are in the flow already: their numbers are what the flow has.
    """
    came, full, _ = Net(web, greatest_flow(web)).look()
    tickets = []
    for index, ticket in enumerate(web[0]):
        if index not in came and (ticket[3] is None or ticket[3] in came):
            tickets.append(index)
    places = [index for index, row in enumerate(web[1]) if row[1] in came and row[2] not in full]
    return (tuple(tickets), tuple(places), tuple(sorted(full)))
