"""Worths: what a ticket costs, and what it and others can give back."""

from pagesworn.deeds import behind_deed
from pagesworn.errors import NoTicket
from pagesworn.flows import greatest_flow, tickets_of, widened_wholly
from pagesworn.forms import group_of, is_lot, named_processes, named_snapshot, process_of
from pagesworn.grants import is_granted
from pagesworn.inside import inside, is_kept, is_within, limits_of
from pagesworn.need import live
from pagesworn.webs import web_of
from pagesworn.wishes import behind_wish


def number_of(house, process, lot):
    """The number of the ticket of a process with this lot."""
    for pages, number in process_of(house, process)[2]:
        if is_lot(lot) and pages == lot:
            return number
    raise NoTicket(process, lot)


def index_in(web, process, lot):
    """The index of the ticket of a process with this lot, None if it is not in the web."""
    for index, ticket in enumerate(web[0]):
        if ticket[:2] == (process, lot):
            return index
    return None


def with_number(web, index, number):
    """The web in which the ticket at index has this number."""
    process, lot, _, above = web[0][index]
    return (web[0][:index] + ((process, lot, number, above),) + web[0][index + 1:],) + web[1:]


def worth_in(web, index):
    """By how much the flow of the web grows as the ticket at index is raised.

    No flow has more places than there are: so beyond their number it bars nothing any more.
    """
    flow = greatest_flow(web)
    raised = with_number(web, index, web[0][index][2] + len(web[1]))
    return len(widened_wholly(raised, flow)) - len(flow)


def part_of(web, flow, index):
    """By how much a greatest flow of the web shrinks as the ticket at index is lessened to 0."""
    tickets_at = tickets_of(web)
    kept = tuple([place for place in flow if index not in tickets_at[place]])
    return len(flow) - len(widened_wholly(with_number(web, index, 0), kept))


def worth_of(house, process, lot):
    """The worth of a ticket."""
    number_of(house, process, lot)
    web = web_of(house)
    return worth_in(web, index_in(web, process, lot))


def worth_within(house, group, process, lot):
    """The worth of a ticket for the need of a group, 0 if the process is not within it."""
    own = process_of(house, process)[0]
    group_of(house, group)
    number_of(house, process, lot)
    return worth_of(inside(house, group), process, lot) if is_within(house, own, group) else 0


def most_raise(house, process, lot):
    """By how much a ticket can be raised at most, the house being kept; None if by any number."""
    number_of(house, process, lot)
    found = []
    for _, part, most in limits_of(house):
        web = web_of(part)
        index = index_in(web, process, lot)
        left = most - live(part) - len(greatest_flow(web))
        if index is not None and worth_in(web, index) > left:
            found.append(left)
    return min(found, default=None)


def idle_part(house, process, lot):
    """By how much a ticket can be lessened so that need does not change."""
    number = number_of(house, process, lot)
    web = web_of(house)
    return number - part_of(web, greatest_flow(web), index_in(web, process, lot))


def idle(house):
    """The tickets whose idle part is not 0."""
    web = web_of(house)
    flow = greatest_flow(web)
    return [ticket[:2] for index, ticket in enumerate(web[0]) if ticket[2] > part_of(web, flow, index)]


def excesses(house):
    """For each limit that the house does not keep to a tuple (web, flow, excess), flow being a greatest one."""
    found = []
    for _, part, most in limits_of(house):
        web = web_of(part)
        flow = greatest_flow(web)
        if live(part) + len(flow) > most:
            found.append((web, flow, live(part) + len(flow) - most))
    return found


def least_given(broken, process, lot, number):
    """The least n such that a ticket with this number, lessened by n, does away with all excesses; None if none does.

    The first ones that it is lessened by, its idle part, change nothing; each further one makes the flow less by one.
    """
    given = 0
    for web, flow, excess in broken:
        index = index_in(web, process, lot)
        if index is None or number < excess:
            return None
        part = part_of(web, flow, index)
        if part < excess:
            return None
        given = max(given, number - part + excess)
    return given


def gives_back(house, wish, process, lot):
    """The least n such that the wish is granted if the ticket is lessened by n, None if there is none."""
    number = number_of(house, process, lot)
    behind = behind_wish(house, wish)
    if wish[0] == "raise" and wish[1] == process:
        return 0 if is_kept(behind) else None
    return least_given(excesses(behind), process, lot, number)


def who_can_give(house, wish):
    """The tuples (process, lot, n) of the tickets that can give n back, from 1 on, for the wish to be granted."""
    broken = excesses(behind_wish(house, wish))
    found = []
    for process, _, _, forest in house[4]:
        if wish[0] != "raise" or wish[1] != process:
            given = [(process, lot, least_given(broken, process, lot, number)) for lot, number in forest]
            found.extend([row for row in given if row[2] is not None and row[2] > 0])
    return found


def deeds_that_help(house, wish):
    """The exits and forgets, of what the wish does not name, behind each of which it is granted."""
    deeds = [("exit", row[0]) for row in house[4] if row[0] not in named_processes(wish)]
    deeds.extend([("forget", row[0]) for row in house[5] if row[0] != named_snapshot(wish)])
    return [deed for deed in deeds if is_granted(behind_deed(house, deed)[0], wish)]
