"""Grants: which wishes are granted, and the cuts that show why they can be."""

from pagesworn.cuts import is_cut, least_cut, size_of_cut
from pagesworn.forms import is_integer, is_row
from pagesworn.inside import is_kept, limits_of
from pagesworn.need import live
from pagesworn.webs import web_of
from pagesworn.wishes import behind_wish


def is_granted(house, wish):
    """Whether the wish is granted."""
    return is_kept(behind_wish(house, wish))


def grant_paper(house, wish):
    """For the house behind the wish and each group with a room a cut that shows its need, None if it is refused."""
    rows = []
    for group, part, most in limits_of(behind_wish(house, wish)):
        web = web_of(part)
        cut = least_cut(web)
        if live(part) + size_of_cut(web, cut) > most:
            return None
        rows.append((group, cut))
    return tuple(rows)


def is_same_group(group, thing):
    """Whether thing is the group, an integer or None."""
    return thing is None if group is None else is_integer(thing) and thing == group


def shows_limit(limit, thing):
    """Whether thing is a tuple (group, cut) that shows that a limit of the house is kept to."""
    group, part, most = limit
    if not is_row(thing, 2) or not is_same_group(group, thing[0]):
        return False
    web = web_of(part)
    return is_cut(web, thing[1]) and live(part) + size_of_cut(web, thing[1]) <= most


def is_grant_paper(house, wish, thing):
    """Whether thing is a grant paper of the house and the wish."""
    limits = limits_of(behind_wish(house, wish))
    return is_row(thing, len(limits)) and all([shows_limit(limit, row) for limit, row in zip(limits, thing)])
