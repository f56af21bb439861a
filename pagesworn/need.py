"""Need: the most cells that any row of deeds can lead to."""

from pagesworn.deeds import behind_deed, write_answer
from pagesworn.errors import TooMany
from pagesworn.flat import content_of_cell
from pagesworn.flows import flow_many, greatest_flow
from pagesworn.forms import places_of
from pagesworn.webs import web_of

MOST_WALKED = 300


def live(house):
    """How many cells there are."""
    return len(house[6])


def capacity(house):
    """How many cells there is room for."""
    return house[0] + house[1]


def flow_of(house):
    """How many copies there can be that bring one cell more each."""
    return flow_many(web_of(house))


def need(house):
    """The most cells that any row of deeds leads to."""
    return live(house) + flow_of(house)


def same_writes(house, places):
    """For each of the places the deed that writes what it shows there."""
    index_at = places_of(house)
    return tuple([("write",) + place + (content_of_cell(house[6], index_at[place]),) for place in places])


def reaching_row(house):
    """Writes that lead to as many cells as the house needs, each a copy of what its place shows."""
    return same_writes(house, greatest_flow(web_of(house)))


def walking_deeds(house):
    """The deeds by which most_by_walking goes on from a house."""
    places = list(places_of(house))
    deeds = list(same_writes(house, [place for place in places if write_answer(house, place[0], place[1]) == "copy"]))
    deeds.extend([("drop",) + place for place in places])
    deeds.extend([("exit", row[0]) for row in house[4]])
    return deeds + [("forget", row[0]) for row in house[5]]


def most_by_walking(house):
    """The most cells of all houses that come by copies, drops, exits and forgets, all being gone through."""
    met = {house: True}
    row = [house]
    at = 0
    while at < len(row):
        ahead = row[at]
        at += 1
        for deed in walking_deeds(ahead):
            behind = behind_deed(ahead, deed)[0]
            if behind not in met:
                if len(row) == MOST_WALKED:
                    raise TooMany(MOST_WALKED)
                met[behind] = True
                row.append(behind)
    return max([live(other) for other in row])
