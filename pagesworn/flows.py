"""Flows: places that can all be copied, as tickets and cells let them."""

from pagesworn.forms import is_lot_of_pairs


def outwards(tickets, index):
    """The index of a ticket of a web, and of all around it, from the innermost one out."""
    found = []
    at = index
    while at is not None:
        found.append(at)
        at = tickets[at][3]
    return found


def tickets_of(web):
    """For each place of a web the indexes of its ticket and of all around this."""
    return {row[0]: outwards(web[0], row[1]) for row in web[1]}


class Net:
    """A web and a flow in it, laid out so that a road can be looked for by which the flow is widened.

    A road begins at an outermost ticket with room, and leads on from each ticket to those just within it that
    have room, and over a place that is not in the flow to its cell. It ends where this has room, or is zeros.
    From a full cell it leads on over each place of the flow that could give way, to the ticket of this place;
    and out of a ticket in which a place gives way to the one around it, as this then has no place more.
    """

    def __init__(self, web, flow):
        self.tickets, self.places, self.cells = web
        self.outermost = [index for index, ticket in enumerate(self.tickets) if ticket[3] is None]
        self.within = [[] for _ in self.tickets]
        for index, ticket in enumerate(web[0]):
            if ticket[3] is not None:
                self.within[ticket[3]].append(index)
        self.at_ticket = [[] for _ in self.tickets]
        self.at_cell = [[] for _ in self.cells]
        for index, (_, ticket, cell) in enumerate(web[1]):
            self.at_ticket[ticket].append(index)
            if cell is not None:
                self.at_cell[cell].append(index)
        self.used_of_tickets = [0] * len(self.tickets)
        self.used_of_cells = [0] * len(self.cells)
        self.is_in = [False] * len(self.places)
        chosen = {place: True for place in flow}
        for index, row in enumerate(web[1]):
            if row[0] in chosen:
                self.turn(index)

    def flow(self):
        """The flow."""
        return tuple([row[0] for index, row in enumerate(self.places) if self.is_in[index]])

    def turn(self, index):
        """Puts a place into the flow, or takes it out if it is there."""
        _, ticket, cell = self.places[index]
        by = -1 if self.is_in[index] else 1
        self.is_in[index] = not self.is_in[index]
        if cell is not None:
            self.used_of_cells[cell] += by
        for at in outwards(self.tickets, ticket):
            self.used_of_tickets[at] += by

    def has_ticket_room(self, ticket):
        """Whether less than its number is used of a ticket."""
        return self.used_of_tickets[ticket] < self.tickets[ticket][2]

    def has_cell_room(self, cell):
        """Whether less than its number is used of a cell; there always is room in zeros."""
        return cell is None or self.used_of_cells[cell] < self.cells[cell]

    def can_simply_come(self, index):
        """Whether a place can be put into the flow, and no other one has to give way."""
        _, ticket, cell = self.places[index]
        if self.is_in[index] or not self.has_cell_room(cell):
            return False
        return all([self.has_ticket_room(at) for at in outwards(self.tickets, ticket)])

    def fill(self):
        """Puts all places into the flow, in order, that can simply come: for them no road has to be looked for."""
        for index in range(len(self.places)):
            if self.can_simply_come(index):
                self.turn(index)

    def next_tickets(self, ticket):
        """The tickets to which a road leads on from a ticket, over no place.

        If the road did not come from the one around it, a place gives way within it: so it can go out again.
        """
        found = [index for index in self.within[ticket] if self.has_ticket_room(index)]
        above = self.tickets[ticket][3]
        return found if above is None else found + [above]

    def look(self):
        """All that roads lead to, until one ends: a tuple (came, full, last).

        came has each ticket that was come to, with the index of the place that gave way last on the road there,
        None if none did; full each full cell, with the index of the place over which it was come to; last is the
        index of the place over which a road ends, None if there is none.
        """
        row = [ticket for ticket in self.outermost if self.has_ticket_room(ticket)]
        came = {ticket: None for ticket in row}
        full = {}
        at = 0
        while at < len(row):
            ticket = row[at]
            at += 1
            for other in self.next_tickets(ticket):
                if other not in came:
                    came[other] = came[ticket]
                    row.append(other)
            for index in self.coming(ticket):
                cell = self.places[index][2]
                if self.has_cell_room(cell):
                    return (came, full, index)
                if cell not in full:
                    full[cell] = index
                    for other in self.going(cell):
                        holder = self.places[other][1]
                        if holder not in came:
                            came[holder] = other
                            row.append(holder)
        return (came, full, None)

    def coming(self, ticket):
        """The indexes of the places of a ticket that are not in the flow."""
        return [index for index in self.at_ticket[ticket] if not self.is_in[index]]

    def going(self, cell):
        """The indexes of the places of a cell that are in the flow."""
        return [index for index in self.at_cell[cell] if self.is_in[index]]

    def widen(self):
        """Puts one place more into the flow, others changing places; tells whether there was a road for it."""
        came, full, last = self.look()
        index = last
        while index is not None:
            self.turn(index)
            giving = came[self.places[index][1]]
            index = None
            if giving is not None:
                self.turn(giving)
                index = full[self.places[giving][2]]
        return last is not None


def is_flow(web, thing):
    """Whether thing is a flow of the web."""
    tickets_at = tickets_of(web)
    if not is_lot_of_pairs(thing) or not all([place in tickets_at for place in thing]):
        return False
    tickets = [index for place in thing for index in tickets_at[place]]
    cells = [row[2] for row in web[1] if row[0] in thing]
    if not all([tickets.count(index) <= row[2] for index, row in enumerate(web[0])]):
        return False
    return all([cells.count(index) <= number for index, number in enumerate(web[2])])


def widened_wholly(web, flow):
    """A greatest flow, made out of any flow: it is widened as long as it can be."""
    net = Net(web, flow)
    net.fill()
    while net.widen():
        pass
    return net.flow()


def greatest_flow(web):
    """A flow with as many places as any has."""
    return widened_wholly(web, ())


def flow_many(web):
    """How many places a greatest flow has."""
    return len(greatest_flow(web))


def widened(web, flow):
    """A flow with one place more, None if the flow is a greatest one."""
    net = Net(web, flow)
    return net.flow() if net.widen() else None
