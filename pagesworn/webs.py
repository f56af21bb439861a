"""Webs: the tickets, the places and the cells that say together how many copies there can be."""

from pagesworn.forests import arounds, tickets_with
from pagesworn.forms import places_of


def web_tickets(processes):
    """All tickets of the processes, each with the index of the innermost one around it."""
    rows = []
    for process in processes:
        number, forest = process[0], process[3]
        first = len(rows)
        for ticket, around in zip(forest, arounds(forest)):
            above = None if around is None else first + around
            rows.append((number, ticket[0], ticket[1], above))
    return tuple(rows)


def firsts_of(processes):
    """For each process the index, among the tickets of all, at which its own ones begin."""
    firsts = {}
    beyond = 0
    for process in processes:
        firsts[process[0]] = beyond
        beyond = beyond + len(process[3])
    return firsts


def web_places(house):
    """The places that are in an own cell, or in zeros, and have a page of a ticket."""
    firsts = firsts_of(house[4])
    forests = {process[0]: process[3] for process in house[4]}
    places = places_of(house)
    rows = []
    for place in places:
        index = places[place]
        held = tickets_with(forests[place[0]], place[1])
        if held != () and (index is None or house[6][index][1] == "own"):
            rows.append((place, firsts[place[0]] + held[-1], index))
    return tuple(rows)


def cell_number(cell):
    """How many places of a cell a flow can have at most."""
    if cell[1] == "common":
        return 0
    return min(len(cell[2]), len(cell[2]) + len(cell[3]) - 1)


def web_of(house):
    """The web of a house."""
    return (web_tickets(house[4]), web_places(house), tuple([cell_number(cell) for cell in house[6]]))
