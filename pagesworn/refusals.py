"""Refusals: the rows of deeds that show why a wish can not be granted."""

from pagesworn.deeds import behind_row
from pagesworn.errors import SwornError
from pagesworn.forms import is_deed, is_number, is_row
from pagesworn.grants import grant_paper
from pagesworn.inside import first_broken_limit, group_live, members
from pagesworn.need import capacity, live, reaching_row
from pagesworn.wishes import behind_wish


def is_too_great(house, group):
    """Whether there are more cells than capacity, or, of a group, any value, more than its room."""
    if group is None:
        return live(house) > capacity(house)
    if not is_number(group) or group >= len(house[2]):
        return False
    room = house[2][group][1]
    return room is not None and group_live(house, group) > room


def is_refusal_paper(house, wish, thing):
    """Whether thing is a refusal paper of the house and the wish."""
    behind = behind_wish(house, wish)
    if not is_row(thing, 2) or not isinstance(thing[1], tuple) or not all([is_deed(deed) for deed in thing[1]]):
        return False
    try:
        last = behind_row(behind, thing[1])[0]
    except SwornError:
        return False
    return is_too_great(last, thing[0])


def parting_deeds(house, group):
    """The deeds behind which all cells that members of the group show are held by members alone."""
    inner = members(house, group)
    exits, forgets = {}, {}
    for _, _, places, readers in house[6]:
        numbers = [place[0] for place in places]
        if any([number in inner for number in numbers]):
            for number in numbers:
                if number not in inner:
                    exits[number] = True
            for reader in readers:
                forgets[reader[0]] = True
    return tuple([("exit", number) for number in sorted(exits)] + [("forget", number) for number in sorted(forgets)])


def refusal_paper(house, wish):
    """A group, or None for capacity, and a row of deeds that leads beyond it; None if the wish is granted."""
    behind = behind_wish(house, wish)
    limit = first_broken_limit(behind)
    if limit is None:
        return None
    group, part, most = limit
    ahead = () if group is None else parting_deeds(behind, group)
    # The cells of the part are those that are counted behind these deeds, and its copies are copies there.
    return (group, ahead + reaching_row(part)[:max(0, most + 1 - live(part))])


def answer_to(house, wish):
    """The tuple ("granted", paper) or ("refused", paper), with a paper that shows it."""
    paper = grant_paper(house, wish)
    if paper is None:
        return ("refused", refusal_paper(house, wish))
    return ("granted", paper)
