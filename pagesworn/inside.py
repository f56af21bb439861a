"""Insides: what a group needs, whoever else does what."""

from pagesworn.deeds import in_order
from pagesworn.forms import group_of
from pagesworn.need import capacity, live, need


def is_within(house, group, other):
    """Whether a group is within another one."""
    group_of(house, group)
    group_of(house, other)
    at = group
    while at is not None and at != other:
        at = group_of(house, at)[0]
    return at is not None


def members(house, group):
    """The lot of the processes whose group is within the group."""
    group_of(house, group)
    return tuple([row[0] for row in house[4] if is_within(house, row[1], group)])


def leaving_row(house, group):
    """The deeds by which all others go, and all snapshots."""
    staying = members(house, group)
    exits = tuple([("exit", row[0]) for row in house[4] if row[0] not in staying])
    return exits + tuple([("forget", row[0]) for row in house[5]])


def inside(house, group):
    """The house behind leaving_row, made in one turn."""
    staying = members(house, group)
    cells = []
    for content, sort, places, _ in house[6]:
        cells.append((content, sort, tuple([place for place in places if place[0] in staying]), ()))
    processes = tuple([row for row in house[4] if row[0] in staying])
    zeros = tuple([place for place in house[7] if place[0] in staying])
    return house[:4] + (processes, (), in_order(cells), zeros)


def group_live(house, group):
    """How many cells members of the group alone hold."""
    staying = members(house, group)
    held = [cell[2] for cell in house[6] if cell[2] != () and cell[3] == ()]
    return len([places for places in held if all([place[0] in staying for place in places])])


def group_need(house, group):
    """The most cells that members of the group alone can come to hold."""
    return need(inside(house, group))


def group_needs(house):
    """The needs of all groups, by index."""
    return tuple([group_need(house, group) for group in range(len(house[2]))])


def spare(house, group):
    """The room of the group less its need, None if it has no room."""
    room = group_of(house, group)[1]
    return None if room is None else room - group_need(house, group)


def limits_of(house):
    """What a kept house has to keep to: a list of tuples (group, part, most), the need of part being at most most.

    The first one is the house itself, with the group None; then each group with a room comes, ascending.
    """
    limits = [(None, house, capacity(house))]
    for group, row in enumerate(house[2]):
        if row[1] is not None:
            limits.append((group, inside(house, group), row[1]))
    return limits


def first_broken_limit(house):
    """The first of the limits that the house does not keep to, None if it is kept."""
    for limit in limits_of(house):
        if live(limit[1]) > limit[2] or need(limit[1]) > limit[2]:
            return limit
    return None


def first_broken(house):
    """None if the house is kept, otherwise "capacity", or the least group whose room is less than its need."""
    limit = first_broken_limit(house)
    if limit is None:
        return None
    return "capacity" if limit[0] is None else limit[0]


def is_kept(house):
    """Whether the house is kept."""
    return first_broken_limit(house) is None
