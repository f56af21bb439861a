"""A flow that is kept: led on from deed to deed, and from wish to wish."""

from pagesworn.deeds import behind_deed
from pagesworn.flows import has_place, widened_wholly
from pagesworn.webs import web_of
from pagesworn.wishes import behind_wish


def fitting_cells(web, flow):
    """What stays of an ascending tuple of places of the web: of each cell so many as it tells, the least ones."""
    cell_at = {row[0]: row[2] for row in web[1]}
    left = list(web[2])
    kept = []
    for place in flow:
        cell = cell_at[place]
        if cell is None:
            kept.append(place)
        elif left[cell] > 0:
            left[cell] -= 1
            kept.append(place)
    return tuple(kept)


def fitting_ticket(ticket, flow):
    """What stays of an ascending tuple of places: with the ticket so many as its number, the least ones."""
    left = ticket[2]
    kept = []
    for place in flow:
        if not has_place(ticket, place):
            kept.append(place)
        elif left > 0:
            left -= 1
            kept.append(place)
    return tuple(kept)


def fitted(web, flow):
    """What stays of the flow of another web: a flow of this one, made by the rule of [23]."""
    known = {row[0]: True for row in web[1]}
    kept = fitting_cells(web, tuple([place for place in flow if place in known]))
    for ticket in sorted(web[0], key=lambda row: len(row[1])):
        kept = fitting_ticket(ticket, kept)
    return kept


def led_on(behind, flow):
    """A greatest flow of a house, made out of a flow of the house ahead of it."""
    web = web_of(behind)
    return widened_wholly(web, fitted(web, flow))


def flow_behind(house, flow, deed):
    """A greatest flow of the house behind a deed, made out of one of the house."""
    return led_on(behind_deed(house, deed)[0], flow)


def widened_many(house, flow, deed):
    """How often the flow is widened behind a deed."""
    behind = behind_deed(house, deed)[0]
    return len(led_on(behind, flow)) - len(fitted(web_of(behind), flow))


def flow_behind_wish(house, flow, wish):
    """A greatest flow of the house behind a wish, granted or not, made out of one of the house."""
    return led_on(behind_wish(house, wish), flow)
