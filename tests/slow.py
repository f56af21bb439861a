"""What DOC.md says, once more, the slow and plain way: what the package tells is held against it."""

from itertools import combinations, product


def integer(thing, least=None):
    return type(thing) is int and (least is None or thing >= least)


def lot(thing, of=lambda item: integer(item, 0)):
    return type(thing) is tuple and all(of(item) for item in thing) and list(thing) == sorted(set(thing))


def pair(thing):
    return type(thing) is tuple and len(thing) == 2 and integer(thing[0], 0) and integer(thing[1], 0)


def ticket(thing):
    return type(thing) is tuple and len(thing) == 2 and lot(thing[0]) and thing[0] != () and integer(thing[1], 0)


def forest(thing):
    if type(thing) is not tuple or not all(ticket(item) for item in thing) or list(thing) != sorted(thing):
        return False
    lots = [set(item[0]) for item in thing]
    return all(one != other and (one < other or other < one or not one & other) for one, other in combinations(lots, 2))


def cell(thing):
    if type(thing) is not tuple or len(thing) != 4:
        return False
    content, sort, places, readers = thing
    if not integer(content) or type(sort) is not str or sort not in ("own", "common"):
        return False
    if not lot(places, pair) or not lot(readers, pair) or not places + readers:
        return False
    return sort == "own" or readers == ()


def rows(thing, many, beyond, good):
    """Whether thing is a tuple of tuples with ascending numbers below beyond."""
    if type(thing) is not tuple or not all(type(row) is tuple and len(row) == many for row in thing):
        return False
    if not all(integer(row[0], 0) and row[0] < beyond and good(row) for row in thing):
        return False
    return all(one[0] < other[0] for one, other in zip(thing, thing[1:]))


def house(thing):
    if type(thing) is not tuple or len(thing) != 8:
        return False
    frames, slots, groups, born, processes, snapshots, cells, zeros = thing
    if not integer(frames, 2) or not integer(slots, 0) or not pair(born) or type(groups) is not tuple or not groups:
        return False
    if type(groups[0]) is not tuple or len(groups[0]) != 2 or groups[0][0] is not None or groups[0][1] is not None:
        return False
    for index, group in enumerate(groups[1:], 1):
        if type(group) is not tuple or len(group) != 2 or not integer(group[0], 0) or group[0] >= index:
            return False
        if group[1] is not None and not integer(group[1], 0):
            return False
    if not rows(processes, 4, born[0], lambda row: integer(row[1], 0) and row[1] < len(groups)
                and integer(row[2], 0) and forest(row[3])):
        return False
    if not rows(snapshots, 3, born[1], lambda row: integer(row[1], 0) and lot(row[2])
                and all(page < row[1] for page in row[2])):
        return False
    if type(cells) is not tuple or not all(cell(item) for item in cells) or list(cells) != sorted(cells):
        return False
    if not lot(zeros, pair):
        return False
    places = sum([list(item[2]) for item in cells], list(zeros))
    readers = sum([list(item[3]) for item in cells], [(row[0], page) for row in snapshots for page in row[2]])
    for pairs, manies in ((places, {row[0]: row[2] for row in processes}), (readers, {row[0]: row[1] for row in snapshots})):
        if any(pairs.count(item) > 1 or item[1] >= manies.get(item[0], 0) for item in pairs):
            return False
    return True


def some(thing):
    return lot(thing) and thing != ()


def zero_on(thing):
    return integer(thing, 0)


def room(thing):
    return thing is None or integer(thing, 0)


STEPS = {
    "write": (zero_on, zero_on, integer), "drop": (zero_on, zero_on), "exit": (zero_on,),
    "lessen": (zero_on, some, zero_on), "forget": (zero_on,),
    "begin": (zero_on, zero_on, forest), "more": (zero_on, lambda thing: integer(thing, 1)), "raise": (zero_on, forest),
    "fork": (zero_on, zero_on, forest), "common": (some, lambda thing: integer(thing, 1)),
    "send": (zero_on, zero_on, zero_on), "snapshot": (zero_on,), "back": (zero_on, zero_on), "group": (zero_on, room),
    "move": (zero_on, zero_on), "room": (lambda thing: integer(thing, 1), room),
    "frames": (lambda thing: integer(thing, 2),), "slots": (zero_on,),
}
DEEDS = ("write", "drop", "exit", "lessen", "forget")


def step(thing, words):
    if type(thing) is not tuple or not thing or type(thing[0]) is not str or thing[0] not in words:
        return False
    checks = STEPS[thing[0]]
    return len(thing) == len(checks) + 1 and all(check(part) for check, part in zip(checks, thing[1:]))


def deed(thing):
    return step(thing, DEEDS)


def wish(thing):
    return step(thing, [word for word in STEPS if word not in DEEDS])


def flat(thing):
    if type(thing) is not tuple or len(thing) != 4 or not pair(thing[0]):
        return False
    born, processes, snapshots, boxes = thing
    if type(boxes) is not tuple or not all(integer(box) for box in boxes):
        return False

    def pages(row, good):
        if not integer(row[1], 0) or type(row[2]) is not tuple:
            return False
        return rows(row[2], 2, row[1], lambda item: good(item[1]))

    def what(thing):
        if type(thing) is not tuple or len(thing) != 2 or type(thing[0]) is not str:
            return False
        return (thing[0] == "own" and integer(thing[1])) or (
            thing[0] == "box" and integer(thing[1], 0) and thing[1] < len(boxes))

    if not rows(processes, 3, born[0], lambda row: pages(row, what)):
        return False
    if not rows(snapshots, 3, born[1], lambda row: pages(row, integer)):
        return False
    holders = [[(row[0], page) for row in processes for page, has in row[2] if has == ("box", index)]
               for index in range(len(boxes))]
    return all(holders) and [min(held) for held in holders] == sorted(min(held) for held in holders)


def lets(tickets, page):
    numbers = [number for pages, number in tickets if page in pages]
    return numbers != [] and 0 not in numbers


def let_vectors(tickets, pages, most):
    """The set of all tuples that tell how often each of the pages stands in a row that is let, up to most."""
    found = set()
    for vector in product(range(most + 1), repeat=len(pages)):
        row = [page for page, many in zip(pages, vector) for _ in range(many)]
        left = tickets
        for page in row:
            if not lets(left, page):
                break
            left = [(held, number - (page in held)) for held, number in left]
        else:
            found.add(vector)
    return found


class Cell:
    """A cell that is one and the same, whatever becomes of it."""

    def __init__(self, content, sort, places, readers):
        self.content = content
        self.sort = sort
        self.places = set(places)
        self.readers = set(readers)


class House:
    """A house whose parts are changed as [2] tells of deeds and wishes."""

    def __init__(self, house):
        self.frames, self.slots = house[:2]
        self.groups = [list(group) for group in house[2]]
        self.born = list(house[3])
        self.processes = {row[0]: list(row[1:]) for row in house[4]}
        self.snapshots = {row[0]: [row[1], set(row[2])] for row in house[5]}
        self.cells = [Cell(*item) for item in house[6]]
        self.zeros = set(house[7])

    def tuple(self):
        cells = [(one.content, one.sort, tuple(sorted(one.places)), tuple(sorted(one.readers)))
                 for one in self.cells if one.places or one.readers]
        return (
            self.frames, self.slots, tuple(tuple(group) for group in self.groups), tuple(self.born),
            tuple((number, *self.processes[number]) for number in sorted(self.processes)),
            tuple((number, self.snapshots[number][0], tuple(sorted(self.snapshots[number][1])))
                  for number in sorted(self.snapshots)),
            tuple(sorted(cells)), tuple(sorted(self.zeros)),
        )

    def cell(self, place):
        for one in self.cells:
            if place in one.places:
                return one
        return None

    def is_gone(self, place):
        return place not in self.zeros and self.cell(place) is None

    def pages(self, process):
        many = self.processes[process][1]
        return [page for page in range(many) if not self.is_gone((process, page))]

    def error(self, step):
        """The name of the error and its fields, None if there is none."""
        word = step[0]
        looked = {"common": step[1], "send": (step[1], step[-1]), "back": step[2:]}.get(word, step[1:2])
        if word in ("begin", "group", "room", "frames", "slots", "forget"):
            looked = ()
        for process in looked:
            if process not in self.processes:
                return ("NoProcess", (process,))
        if word in ("write", "drop", "send") and self.is_gone(step[1:3]):
            return ("NoPlace", step[1:3])
        group = {"begin": 1, "fork": 2, "group": 1, "move": 2, "room": 1}.get(word)
        if group is not None and step[group] >= len(self.groups):
            return ("NoGroup", (step[group],))
        if word in ("forget", "back") and step[1] not in self.snapshots:
            return ("NoSnapshot", (step[1],))
        if word == "lessen" and not any(step[2] == held and step[3] <= n for held, n in self.processes[step[1]][2]):
            return ("NoTicket", step[1:3])
        return None

    def drop(self, place):
        self.zeros.discard(place)
        for one in self.cells:
            one.places.discard(place)
        self.cells = [one for one in self.cells if one.places or one.readers]

    def put(self, place, beside):
        """Puts a place where another one is."""
        one = self.cell(beside)
        if one is None:
            self.zeros.add(place)
        else:
            one.places.add(place)

    def come(self, group, many, tickets):
        self.processes[self.born[0]] = [group, many, tickets]
        self.born[0] += 1
        return self.born[0] - 1

    def grow(self, process, many):
        self.processes[process][1] += many
        return [(process, page) for page in range(self.processes[process][1] - many, self.processes[process][1])]

    def do(self, step):
        """Does a step that names what is there, and returns its answer."""
        return getattr(self, "do_" + step[0])(*step[1:]) or "done"

    def do_write(self, process, page, content):
        place = (process, page)
        one = self.cell(place)
        if one and (one.sort == "common" or (one.places == {place} and not one.readers)):
            one.content = content
            return "place"
        row = self.processes[process]
        if not lets(row[2], page):
            return "refused"
        row[2] = tuple((held, number - (page in held)) for held, number in row[2])
        self.drop(place)
        self.cells.append(Cell(content, "own", [place], []))
        return "copy"

    def do_drop(self, process, page):
        self.drop((process, page))

    def do_exit(self, process):
        for page in self.pages(process):
            self.drop((process, page))
        del self.processes[process]

    def do_lessen(self, process, held, number):
        row = self.processes[process]
        row[2] = tuple((one, number if one == held else old) for one, old in row[2])

    def do_forget(self, snapshot):
        for one in self.cells:
            one.readers = {reader for reader in one.readers if reader[0] != snapshot}
        del self.snapshots[snapshot]

    def do_begin(self, group, many, tickets):
        number = self.come(group, 0, tickets)
        self.zeros |= set(self.grow(number, many))

    def do_more(self, process, many):
        self.zeros |= set(self.grow(process, many))

    def do_raise(self, process, tickets):
        self.processes[process][2] = tickets

    def do_fork(self, process, group, tickets):
        number = self.come(group, self.processes[process][1], tickets)
        for page in self.pages(process):
            self.put((number, page), (process, page))

    def do_common(self, processes, many):
        for places in zip(*[self.grow(process, many) for process in processes]):
            self.cells.append(Cell(0, "common", places, []))

    def do_send(self, process, page, other):
        self.put(self.grow(other, 1)[0], (process, page))

    def do_snapshot(self, process):
        number = self.born[1]
        self.born[1] += 1
        self.snapshots[number] = [self.processes[process][1], set()]
        for page in self.pages(process):
            one = self.cell((process, page))
            if one is None:
                self.snapshots[number][1].add(page)
            elif one.sort == "own":
                one.readers.add((number, page))
            else:
                self.cells.append(Cell(one.content, "own", [], [(number, page)]))

    def do_back(self, snapshot, process):
        for page in self.pages(process):
            self.drop((process, page))
        row = self.processes[process]
        row[1] = max(row[1], self.snapshots[snapshot][0])
        self.zeros |= {(process, page) for page in self.snapshots[snapshot][1]}
        for one in self.cells:
            one.places |= {(process, page) for at, page in one.readers if at == snapshot}

    def do_group(self, above, held):
        self.groups.append([above, held])

    def do_move(self, process, group):
        self.processes[process][0] = group

    def do_room(self, group, held):
        self.groups[group][1] = held

    def do_frames(self, many):
        self.frames = many

    def do_slots(self, many):
        self.slots = many


def largest(things, lets):
    """The greatest number of things that are let together; of what is let all parts are let, too."""
    best = 0

    def go(at, chosen):
        nonlocal best
        best = max(best, len(chosen))
        for index in range(at, len(things)):
            if lets(chosen + [things[index]]):
                go(index + 1, chosen + [things[index]])

    go(0, [])
    return best


def flow_lets(house, chosen):
    """Whether these places are such as FLOW of [2] counts."""
    _, _, _, _, processes, _, cells, zeros = house
    own = [item for item in cells if item[1] == "own"]
    for place in chosen:
        if place not in zeros and not any(place in item[2] for item in own):
            return False
    for item in own:
        h, r, many = len(item[2]), len(item[3]), len(set(item[2]) & set(chosen))
        if many > h or many > h + r - 1:
            return False
    for number, _, _, tickets in processes:
        pages = [page for process, page in chosen if process == number]
        if not all(any(page in held for held, _ in tickets) for page in pages):
            return False
        if any(len(set(pages) & set(held)) > most for held, most in tickets):
            return False
    return True


def flow(house):
    places = [place for item in house[6] for place in item[2]] + list(house[7])
    return largest(places, lambda chosen: flow_lets(house, chosen))


def need(house):
    return len(house[6]) + flow(house)


def within(house, group, other):
    return group == other or (group != 0 and within(house, house[2][group][0], other))


def leaving(house, group):
    """The deeds by which all go that are not within the group."""
    exits = [("exit", row[0]) for row in house[4] if not within(house, row[1], group)]
    return exits + [("forget", row[0]) for row in house[5]]


def behind(house, steps):
    told = House(house)
    for step in steps:
        told.do(step)
    return told.tuple()


def inside(house, group):
    return behind(house, leaving(house, group))


def group_live(house, group):
    group_of = {row[0]: row[1] for row in house[4]}
    return sum(1 for _, _, places, readers in house[6]
               if places and not readers and all(within(house, group_of[place[0]], group) for place in places))


def broken(house):
    """What keeps the house from being kept: None for capacity, and groups, in order."""
    found = [None] if need(house) > house[0] + house[1] else []
    return found + [group for group, row in enumerate(house[2]) if row[1] is not None and need(inside(house, group)) > row[1]]


def walk(house, most):
    """All houses that come by copies of what is shown, drops, exits and forgets, each with the fewest deeds that
    lead there; None if they are more than most."""
    met = {house: 0}
    row = [house]
    for ahead in row:
        for deed in walking(ahead):
            told = House(ahead)
            told.do(deed)
            later = told.tuple()
            if later not in met:
                met[later] = met[ahead] + 1
                row.append(later)
                if len(row) > most:
                    return None
    return met


def walking(house):
    told = House(house)
    for number, row in told.processes.items():
        yield ("exit", number)
        for page in told.pages(number):
            yield ("drop", number, page)
            one = told.cell((number, page))
            alone = one and (one.sort == "common" or (len(one.places) == 1 and not one.readers))
            if not alone and lets(row[2], page):
                yield ("write", number, page, one.content if one else 0)
    for number in told.snapshots:
        yield ("forget", number)


def web(house):
    """The web by the words of [19]."""
    tickets = [(row[0], held, number) for row in house[4] for held, number in row[3]]

    def innermost(process, pages, beside=None):
        held = [index for index, item in enumerate(tickets)
                if item[0] == process and pages <= set(item[1]) and index != beside]
        return min(held, key=lambda index: len(tickets[index][1]), default=None)

    found = tuple((process, held, number, innermost(process, set(held), index))
                  for index, (process, held, number) in enumerate(tickets))
    cell_at = {place: (index, item[1]) for index, item in enumerate(house[6]) for place in item[2]}
    cell_at.update({place: (None, "own") for place in house[7]})
    places = []
    for place in sorted(cell_at):
        index = innermost(place[0], {place[1]})
        if cell_at[place][1] == "own" and index is not None:
            places.append((place, index, cell_at[place][0]))
    cells = tuple(0 if item[1] == "common" else min(len(item[2]), len(item[2]) + len(item[3]) - 1) for item in house[6])
    return found, tuple(places), cells


def held_by(web, index):
    """The ticket of the place at index of a web, and all around this."""
    found = []
    at = web[1][index][1]
    while at is not None:
        found.append(at)
        at = web[0][at][3]
    return found


def is_flow(web, thing):
    if not lot(thing, pair) or not all(place in [row[0] for row in web[1]] for place in thing):
        return False
    indexes = [index for index, row in enumerate(web[1]) if row[0] in thing]
    held = [at for index in indexes for at in held_by(web, index)]
    if any(held.count(at) > item[2] for at, item in enumerate(web[0])):
        return False
    cells = [web[1][index][2] for index in indexes]
    return all(cells.count(at) <= number for at, number in enumerate(web[2]))


def most_of_flows(web):
    """How many places the greatest flow of a web has."""
    return largest([row[0] for row in web[1]], lambda chosen: is_flow(web, tuple(chosen)))


def is_cut(web, thing):
    if type(thing) is not tuple or len(thing) != 3:
        return False
    for part, things in zip(thing, web):
        if not lot(part) or not all(index in range(len(things)) for index in part):
            return False
    tickets, places, cells = thing
    for index, row in enumerate(web[1]):
        if index not in places and row[2] not in cells and not set(tickets) & set(held_by(web, index)):
            return False
    return True


def size_of_cut(web, cut):
    return sum(web[0][index][2] for index in cut[0]) + len(cut[1]) + sum(web[2][index] for index in cut[2])


def staying(web, flow):
    """What stays of the flow of another web, by the rule of [23]."""
    index_of = {row[0]: index for index, row in enumerate(web[1])}
    left = [place for place in flow if place in index_of]
    for cell, number in enumerate(web[2]):
        held = [place for place in left if web[1][index_of[place]][2] == cell]
        left = [place for place in left if place not in sorted(held)[number:]]
    for at in sorted(range(len(web[0])), key=lambda index: len(web[0][index][1])):
        held = [place for place in left if at in held_by(web, index_of[place])]
        left = [place for place in left if place not in sorted(held)[web[0][at][2]:]]
    return tuple(left)


def is_grant_paper(house, wish, thing):
    """Whether thing is a grant paper, by the words of [25]."""
    later = behind(house, [wish])
    parts = [(None, later, later[0] + later[1])]
    parts += [(group, inside(later, group), row[1]) for group, row in enumerate(later[2]) if row[1] is not None]
    if type(thing) is not tuple or len(thing) != len(parts):
        return False
    for row, (group, part, most) in zip(thing, parts):
        if type(row) is not tuple or len(row) != 2 or type(row[0]) is not type(group) or row[0] != group:
            return False
        if not is_cut(web(part), row[1]) or len(part[6]) + size_of_cut(web(part), row[1]) > most:
            return False
    return True


def is_refusal_paper(house, wish, thing):
    """Whether thing is a refusal paper, by the words of [26]."""
    if type(thing) is not tuple or len(thing) != 2 or type(thing[1]) is not tuple:
        return False
    told = House(behind(house, [wish]))
    for step in thing[1]:
        if not deed(step) or told.error(step) is not None:
            return False
        told.do(step)
    group, last = thing[0], told.tuple()
    if group is None:
        return len(last[6]) > last[0] + last[1]
    if not integer(group, 0) or group >= len(last[2]) or last[2][group][1] is None:
        return False
    return group_live(last, group) > last[2][group][1]


def many_times(house, process, many):
    """The house in which there are so many processes with the group and the forest of this one, showing what it shows."""
    born, row = house[3], [row for row in house[4] if row[0] == process][0]
    numbers = range(born[0], born[0] + many - 1)

    def grown(places):
        return tuple(sorted(list(places) + [(number, page) for number in numbers for at, page in places if at == process]))

    cells = tuple(sorted((content, sort, grown(places), readers) for content, sort, places, readers in house[6]))
    rows = house[4] + tuple((number,) + row[1:] for number in numbers)
    return house[:3] + ((born[0] + many - 1, born[1]), rows, house[5], cells, grown(house[7]))


def numbers_with(house, process, many):
    """The numbers of [28], from the house in which the process really is so often, all of its items being added."""
    web_now, web_then = web(house), web(many_times(house, process, many))
    copies = [process] + list(range(house[3][0], house[3][0] + many - 1))

    def same(one, other):
        return one == other or (one == process and other in copies)

    tickets = tuple(sum(then[2] for then in web_then[0] if same(now[0], then[0]) and now[1] == then[1]) for now in web_now[0])
    places = tuple(len([then for then in web_then[1] if same(now[0][0], then[0][0]) and now[0][1] == then[0][1]])
                   for now in web_now[1])
    return tickets, places, web_then[2]


def is_spread(house, process, many, thing):
    """Whether thing is a spread, by the words of [28]."""
    found = web(house)
    tickets, places, cells = numbers_with(house, process, many)
    if type(thing) is not tuple or len(thing) != len(found[1]) or not all(integer(item, 0) for item in thing):
        return False
    if any(item > number for item, number in zip(thing, places)):
        return False
    for at, number in enumerate(tickets):
        if sum(item for index, item in enumerate(thing) if at in held_by(found, index)) > number:
            return False
    return all(sum(item for row, item in zip(found[1], thing) if row[2] == at) <= number for at, number in enumerate(cells))


def greatest_sum(house, process, many):
    """The greatest sum of a spread, all of them being gone through."""
    ranges = [range(number + 1) for number in numbers_with(house, process, many)[1]]
    return max(sum(thing) for thing in product(*ranges) if is_spread(house, process, many, thing))


def is_dealt(house, process, many, spread, lots):
    """Whether the spread is dealt to the lots, by the words of [28]."""
    if type(lots) is not list or len(lots) != many or not all(lot(pages) for pages in lots):
        return False
    row = [row for row in house[4] if row[0] == process][0]
    told = {place[1]: count for (place, _, _), count in zip(web(house)[1], spread) if place[0] == process}
    pages = {page for held in lots for page in held} | set(told)
    if any(len([held for held in lots if page in held]) != told.get(page, 0) for page in pages):
        return False
    return all(len(set(held) & set(wide)) <= number for held in lots for wide, number in row[3])


def entry(thing):
    if type(thing) is not tuple or len(thing) != 3 or type(thing[0]) is not str or not integer(thing[1], 0):
        return False
    if thing[0] == "frame":
        return type(thing[2]) is bool
    return thing[2] is False and (thing[0] == "slot" or (thing[0] == "zero" and thing[1] == 0))


def node(thing, height):
    if type(thing) is not tuple or len(thing) != 4 or all(item is None for item in thing):
        return False
    return all(item is None or (entry(item) if height == 1 else node(item, height - 1)) for item in thing)


def table(thing):
    if type(thing) is not tuple or len(thing) != 2 or not integer(thing[0], 1) or thing[0] > 9:
        return False
    return thing[1] is None or node(thing[1], thing[0])


def digits(page, depth):
    """The digits of a page to the base four, the uppermost one first."""
    return [page // 4 ** (depth - 1 - at) % 4 for at in range(depth)]


def way(table, page):
    """The items that a page leads to, from the root on, as far as there are any."""
    found, at = [], table[1]
    for digit in digits(page, table[0]) + [None]:
        if at is None or page >= 4 ** table[0]:
            return found
        found.append(at)
        at = at[digit] if digit is not None else None
    return found


def layout(house, thing):
    """Whether thing is a layout, by the words of [31]."""
    if type(thing) is not tuple or len(thing) != 2 or any(type(part) is not tuple for part in thing):
        return False
    if [len(part) for part in thing] != list(house[:2]):
        return False
    items = [item for part in thing for item in part if item is not None]
    return all(cell(item) for item in items) and len(items) == len(house[6]) and all(items.count(item) == 1 for item in house[6])


def is_open(cell, place):
    """Whether a place is open in a cell that has it."""
    return cell[1] == "common" or (cell[2] == (place,) and cell[3] == ())
