"""Equal forks: what any number of children needs, and how many of them are granted."""

from pagesworn.inside import is_within, limits_of
from pagesworn.need import live, need
from pagesworn.spreads import line_of, numbers_with, spread_cut, spread_of
from pagesworn.wishes import behind_wish


def with_child(house, process, group, forest):
    """The house with one child, which has the next number."""
    return behind_wish(house, ("fork", process, group, forest))


def need_with(house, process, group, forest, many):
    """The need of the house with so many children."""
    once = with_child(house, process, group, forest)
    if many == 0:
        return need(house)
    return live(once) + sum(spread_of(once, house[3][0], many))


def line_at(once, child, many):
    """A line (start, step) that tells the flow with so many children, and with no other number of them less than it.

    With the child 0 times it is as if it was not there: all that it shows, somebody else shows, too.
    """
    return line_of(once, child, spread_cut(once, child, many))


def on_line(line, many):
    """What a line tells for so many children."""
    return line[0] + line[1] * many


def crossing(line, other):
    """The last number up to which a line tells no more than another one that rises less."""
    return (other[0] - line[0]) // (line[1] - other[1])


def lines_between(once, child, low, high):
    """The lines that the flow follows between two numbers of children, by falling steps.

    low and high are tuples (many, line), the line telling the flow there. Up to where they cross the low line tells
    no more than the high one, from there on no less. Where the flow is less than both, a further line tells it.
    """
    if on_line(low[1], high[0]) == on_line(high[1], high[0]):
        return []
    last = crossing(low[1], high[1])
    for many, least in ((last, low[1]), (last + 1, high[1])):
        line = line_at(once, child, many)
        if on_line(line, many) < on_line(least, many):
            middle = (many, line)
            return lines_between(once, child, low, middle) + [line] + lines_between(once, child, middle, high)
    return []


def lines_of(once, child):
    """The lines of which the least one tells the flow for each number of children, by falling steps.

    No two lines cross beyond the sum of all numbers: so the last one is what the flow follows from there on.
    """
    beyond = 1 + sum([sum(part) for part in numbers_with(once, child, 1)])
    low, high = (0, line_at(once, child, 0)), (beyond, line_at(once, child, beyond))
    return [low[1]] + lines_between(once, child, low, high) + [high[1]]


def cost_at(lines, many):
    """By how much the flow rises from so many children to one more."""
    return min([on_line(line, many + 1) for line in lines]) - min([on_line(line, many) for line in lines])


def costs_of_children(house, process, group, forest):
    """The tuples (first, cost): from so many children on each further one costs so much, until the next tuple."""
    lines = lines_of(with_child(house, process, group, forest), house[3][0])
    firsts = {0: True}
    for line, other in zip(lines, lines[1:]):
        if line[1] > other[1]:
            # The cost changes where lines cross; if this is between two numbers, one child has a cost between theirs.
            last = crossing(line, other)
            firsts[last] = True
            firsts[last + 1] = True
    costs = []
    for first in sorted(firsts):
        cost = cost_at(lines, first)
        if costs == [] or cost < costs[-1][1]:
            costs.append((first, cost))
    return costs


def most_in(part, child, most):
    """How many times the child can be there so that need is at most most, None if any number of times.

    Each line that tells the need of one time more lets just so many times more as are below most on it.
    """
    many = 0
    while True:
        line = line_at(part, child, many + 1)
        if live(part) + on_line(line, many + 1) > most:
            return many
        if line[1] == 0:
            return None
        many = (most - live(part) - line[0]) // line[1]


def bars(house, process, group, forest):
    """The tuples (group, many): each limit of the house that lets no more than many children, None being capacity."""
    once = with_child(house, process, group, forest)
    found = []
    for held, part, most in limits_of(once):
        if held is None or is_within(house, group, held):
            many = most_in(part, house[3][0], most)
            if many is not None:
                found.append((held, many))
    return found


def most_children(house, process, group, forest):
    """The greatest number of children with which the house is kept, None if it is with any number."""
    return min([many for _, many in bars(house, process, group, forest)], default=None)


def stopped_by(house, process, group, forest):
    """What is broken first with one child more than the most, None if nothing ever is."""
    found = bars(house, process, group, forest)
    least = min([many for _, many in found], default=None)
    for held, many in found:
        if many == least:
            return "capacity" if held is None else held
    return None
