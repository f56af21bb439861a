"""Spreads: what a process that is there many times can copy, without a house that has it so often."""

from pagesworn.flows import outwards
from pagesworn.forests import tickets_with
from pagesworn.forms import is_number, is_row, process_of
from pagesworn.webs import web_of

SOURCE = 0
SINK = 1
FIRST_TICKET = 2


def times(row_process, process, many):
    """How often what belongs to a process counts: many times if it is the one that is there many times."""
    return many if row_process == process else 1


def cell_number_with(cell, process, many):
    """How many places of a cell a flow can have at most, the process being there many times."""
    if cell[1] == "common":
        return 0
    places = sum([times(place[0], process, many) for place in cell[2]])
    return min(places, places + len(cell[3]) - 1)


def numbers_with(house, process, many):
    """For each ticket, each place and each cell of the web its number, the process being there many times."""
    process_of(house, process)
    tickets, places, _ = web_of(house)
    return (
        tuple([row[2] * times(row[0], process, many) for row in tickets]),
        tuple([times(row[0][0], process, many) for row in places]),
        tuple([cell_number_with(cell, process, many) for cell in house[6]]),
    )


def taken_of(web, spread):
    """How much a spread takes of each ticket, each place and each cell of the web."""
    of_tickets, of_cells = [0] * len(web[0]), [0] * len(web[2])
    for (_, ticket, cell), count in zip(web[1], spread):
        for at in outwards(web[0], ticket):
            of_tickets[at] += count
        if cell is not None:
            of_cells[cell] += count
    return (of_tickets, spread, of_cells)


def is_spread(house, process, many, thing):
    """Whether thing is a spread of the house with the process many times."""
    numbers = numbers_with(house, process, many)
    web = web_of(house)
    if not is_row(thing, len(web[1])) or not all([is_number(item) for item in thing]):
        return False
    for taken, most in zip(taken_of(web, thing), numbers):
        if not all([count <= number for count, number in zip(taken, most)]):
            return False
    return True


class Pipes:
    """A web as pipes, with the numbers that each takes at most, and with what runs through it.

    A pipe leads to each outermost ticket from the source, to each other one from the ticket around it; one for
    each place from its ticket to its cell, or to the sink if it is in zeros; and one from each cell to the sink.
    They stand in the order of the tickets, the places and the cells. What the pipes of the places carry, as much
    coming to each ticket and each cell as leaves it, is a spread.
    """

    def __init__(self, web, numbers):
        self.tickets, self.places, self.cells = web
        first_cell = FIRST_TICKET + len(self.tickets)
        self.ends = []
        for index, row in enumerate(web[0]):
            self.ends.append((SOURCE if row[3] is None else FIRST_TICKET + row[3], FIRST_TICKET + index))
        for _, ticket, cell in web[1]:
            self.ends.append((FIRST_TICKET + ticket, SINK if cell is None else first_cell + cell))
        for index in range(len(self.cells)):
            self.ends.append((first_cell + index, SINK))
        self.most = numbers[0] + numbers[1] + numbers[2]
        self.used = [0] * len(self.ends)
        self.out_of = [[] for _ in range(first_cell + len(self.cells))]
        self.into = [[] for _ in self.out_of]
        for pipe, (tail, head) in enumerate(self.ends):
            self.out_of[tail].append(pipe)
            self.into[head].append(pipe)

    def parts(self, things):
        """The three parts of a list that has something for each pipe: of the tickets, the places and the cells."""
        beyond_tickets = len(self.tickets)
        beyond_places = beyond_tickets + len(self.places)
        return (things[:beyond_tickets], things[beyond_tickets:beyond_places], things[beyond_places:])

    def straight_pipes(self, index):
        """The pipes that lead to the place at index, over it, and on to the sink."""
        _, ticket, cell = self.places[index]
        found = outwards(self.tickets, ticket) + [len(self.tickets) + index]
        return found if cell is None else found + [len(self.tickets) + len(self.places) + cell]

    def fill(self):
        """Lets run over each place, in order, as much as still can: for this no way has to be looked for."""
        for index in range(len(self.places)):
            pipes = self.straight_pipes(index)
            more = min([self.most[pipe] - self.used[pipe] for pipe in pipes])
            for pipe in pipes:
                self.used[pipe] += more

    def ways(self, node):
        """The tuples (pipe, sign, other): pipes that can carry more from the node to another one, or less to it."""
        found = [(pipe, 1, self.ends[pipe][1]) for pipe in self.out_of[node] if self.used[pipe] < self.most[pipe]]
        return found + [(pipe, -1, self.ends[pipe][0]) for pipe in self.into[node] if self.used[pipe] > 0]

    def look(self):
        """For each node that is come to from the source, until the sink is, the tuple (pipe, sign, node) of the way.

        This node is the one ahead of it; the source has None. What is nearest is come to first, so that only so
        many ways are taken as the pipes and nodes let, however great the numbers are.
        """
        came = {SOURCE: None}
        row = [SOURCE]
        at = 0
        while at < len(row) and SINK not in came:
            node = row[at]
            at += 1
            for pipe, sign, other in self.ways(node):
                if other not in came:
                    came[other] = (pipe, sign, node)
                    row.append(other)
        return came

    def widen(self):
        """Lets as much more run as one way to the sink takes; tells whether there was one."""
        came = self.look()
        if SINK not in came:
            return False
        steps = []
        way = came[SINK]
        while way is not None:
            steps.append(way)
            way = came[way[2]]
        more = min([self.most[pipe] - self.used[pipe] if sign > 0 else self.used[pipe] for pipe, sign, _ in steps])
        for pipe, sign, _ in steps:
            self.used[pipe] += sign * more
        return True


def full_pipes(house, process, many):
    """The pipes of the house with the process many times, as much running through them as can."""
    pipes = Pipes(web_of(house), numbers_with(house, process, many))
    pipes.fill()
    while pipes.widen():
        pass
    return pipes


def spread_of(house, process, many):
    """A spread with as great a sum as any has."""
    pipes = full_pipes(house, process, many)
    return tuple(pipes.parts(pipes.used)[1])


def spread_cut(house, process, many):
    """A cut whose numbers, the process being there many times, add up to the sum of spread_of.

    The pipes that lead from what can still be come to, to what can not, are full; none leads back that is not empty.
    """
    pipes = full_pipes(house, process, many)
    came = pipes.look()
    is_full = [tail in came and head not in came for tail, head in pipes.ends]
    tickets, places, cells = [[at for at, truth in enumerate(part) if truth] for part in pipes.parts(is_full)]
    return (tuple(tickets), tuple(places), tuple(cells))


def size_with(house, process, many, cut):
    """The numbers of a cut, the process being there many times, added."""
    numbers = numbers_with(house, process, many)
    return sum([sum([row[index] for index in part]) for row, part in zip(numbers, cut)])


def line_of(house, process, cut):
    """The tuple (start, step), so that the numbers of the cut add up to start + step * many for every many.

    As each of them grows by as much with each further time, two of their sums tell all others.
    """
    once = size_with(house, process, 1, cut)
    step = size_with(house, process, 2, cut) - once
    return (once - step, step)


def dealt(house, process, many, spread):
    """The pages of the process that a spread tells, dealt to many lots, as its tickets let each of them.

    The pages of each ticket stand side by side, as the tickets that have them tell them apart first.
    """
    forest = process_of(house, process)[2]
    rows = []
    for (place, _, _), count in zip(web_of(house)[1], spread):
        if place[0] == process:
            rows.append((tickets_with(forest, place[1]), place[1], count))
    lots = [[] for _ in range(many)]
    at = 0
    for _, page, count in sorted(rows):
        for _ in range(count):
            lots[at].append(page)
            at = (at + 1) % many
    return [tuple(sorted(lot)) for lot in lots]
