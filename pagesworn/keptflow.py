"""A flow that is kept: led on from deed to deed, and from wish to wish."""

from pagesworn.deeds import behind_deed
from pagesworn.flows import tickets_of, widened_wholly
from pagesworn.webs import web_of
from pagesworn.wishes import behind_wish


def thinned(places, sharers, most):
    """The list of places without those of its sharers, ascending, that are more than most: the greatest ones."""
    going = sharers[most:]
    return [place for place in places if place not in going]


def fitted(web, flow):
    """What stays of the flow of another web: a flow of this one, made by the rule of [23]."""
    tickets_at = tickets_of(web)
    cell_at = {row[0]: row[2] for row in web[1]}
    kept = [place for place in flow if place in cell_at]
    for index, number in enumerate(web[2]):
        kept = thinned(kept, [place for place in kept if cell_at[place] == index], number)
    for index in sorted(range(len(web[0])), key=lambda at: len(web[0][at][1])):
        kept = thinned(kept, [place for place in kept if index in tickets_at[place]], web[0][index][2])
    return tuple(kept)


def led_on(behind, flow):
    """A greatest flow of a house, made out of a flow of the house ahead of it."""
    web = web_of(behind)
    return widened_wholly(web, fitted(web, flow))


def flow_behind(house, flow, deed):
    """A greatest flow of the house behind a deed, made out of one of the house."""
    return led_on(behind_deed(house, deed)[0], flow)


def widened_many(house, flow, deed):
    """How often the flow is widened behind a deed."""
    behind = behind_deed(house, deed)[0]
    return len(led_on(behind, flow)) - len(fitted(web_of(behind), flow))


def flow_behind_wish(house, flow, wish):
    """A greatest flow of the house behind a wish, granted or not, made out of one of the house."""
    return led_on(behind_wish(house, wish), flow)
