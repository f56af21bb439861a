"""What DOC.md says, once more, the slow and plain way: what the package tells is held against it."""

from itertools import combinations, product


def integer(thing, least=None):
    return type(thing) is int and (least is None or thing >= least)


def lot(thing, of=lambda item: integer(item, 0)):
    return type(thing) is tuple and all(of(item) for item in thing) and list(thing) == sorted(set(thing))


def pair(thing):
    return type(thing) is tuple and len(thing) == 2 and integer(thing[0], 0) and integer(thing[1], 0)


def ticket(thing):
    return type(thing) is tuple and len(thing) == 2 and lot(thing[0]) and thing[0] != () and integer(thing[1], 0)


def forest(thing):
    if type(thing) is not tuple or not all(ticket(item) for item in thing) or list(thing) != sorted(thing):
        return False
    lots = [set(item[0]) for item in thing]
    return all(one != other and (one < other or other < one or not one & other) for one, other in combinations(lots, 2))


def cell(thing):
    if type(thing) is not tuple or len(thing) != 4:
        return False
    content, sort, places, readers = thing
    if not integer(content) or type(sort) is not str or sort not in ("own", "common"):
        return False
    if not lot(places, pair) or not lot(readers, pair) or not places + readers:
        return False
    return sort == "own" or readers == ()


def rows(thing, many, beyond, good):
    """Whether thing is a tuple of tuples with ascending numbers below beyond."""
    if type(thing) is not tuple or not all(type(row) is tuple and len(row) == many for row in thing):
        return False
    if not all(integer(row[0], 0) and row[0] < beyond and good(row) for row in thing):
        return False
    return all(one[0] < other[0] for one, other in zip(thing, thing[1:]))


def house(thing):
    if type(thing) is not tuple or len(thing) != 8:
        return False
    frames, slots, groups, born, processes, snapshots, cells, zeros = thing
    if not integer(frames, 2) or not integer(slots, 0) or not pair(born) or type(groups) is not tuple or not groups:
        return False
    if type(groups[0]) is not tuple or len(groups[0]) != 2 or groups[0][0] is not None or groups[0][1] is not None:
        return False
    for index, group in enumerate(groups[1:], 1):
        if type(group) is not tuple or len(group) != 2 or not integer(group[0], 0) or group[0] >= index:
            return False
        if group[1] is not None and not integer(group[1], 0):
            return False
    if not rows(processes, 4, born[0], lambda row: integer(row[1], 0) and row[1] < len(groups)
                and integer(row[2], 0) and forest(row[3])):
        return False
    if not rows(snapshots, 3, born[1], lambda row: integer(row[1], 0) and lot(row[2])
                and all(page < row[1] for page in row[2])):
        return False
    if type(cells) is not tuple or not all(cell(item) for item in cells) or list(cells) != sorted(cells):
        return False
    if not lot(zeros, pair):
        return False
    places = sum([list(item[2]) for item in cells], list(zeros))
    readers = sum([list(item[3]) for item in cells], [(row[0], page) for row in snapshots for page in row[2]])
    for pairs, manies in ((places, {row[0]: row[2] for row in processes}), (readers, {row[0]: row[1] for row in snapshots})):
        if any(pairs.count(item) > 1 or item[1] >= manies.get(item[0], 0) for item in pairs):
            return False
    return True


def some(thing):
    return lot(thing) and thing != ()


def zero_on(thing):
    return integer(thing, 0)


def room(thing):
    return thing is None or integer(thing, 0)


STEPS = {
    "write": (zero_on, zero_on, integer), "drop": (zero_on, zero_on), "exit": (zero_on,),
    "lessen": (zero_on, some, zero_on), "forget": (zero_on,),
    "begin": (zero_on, zero_on, forest), "more": (zero_on, lambda thing: integer(thing, 1)), "raise": (zero_on, forest),
    "fork": (zero_on, zero_on, forest), "common": (some, lambda thing: integer(thing, 1)),
    "send": (zero_on, zero_on, zero_on), "snapshot": (zero_on,), "back": (zero_on, zero_on), "group": (zero_on, room),
    "move": (zero_on, zero_on), "room": (lambda thing: integer(thing, 1), room),
    "frames": (lambda thing: integer(thing, 2),), "slots": (zero_on,),
}
DEEDS = ("write", "drop", "exit", "lessen", "forget")


def step(thing, words):
    if type(thing) is not tuple or not thing or type(thing[0]) is not str or thing[0] not in words:
        return False
    checks = STEPS[thing[0]]
    return len(thing) == len(checks) + 1 and all(check(part) for check, part in zip(checks, thing[1:]))


def deed(thing):
    return step(thing, DEEDS)


def wish(thing):
    return step(thing, [word for word in STEPS if word not in DEEDS])


def flat(thing):
    if type(thing) is not tuple or len(thing) != 4 or not pair(thing[0]):
        return False
    born, processes, snapshots, boxes = thing
    if type(boxes) is not tuple or not all(integer(box) for box in boxes):
        return False

    def pages(row, good):
        if not integer(row[1], 0) or type(row[2]) is not tuple:
            return False
        return rows(row[2], 2, row[1], lambda item: good(item[1]))

    def what(thing):
        if type(thing) is not tuple or len(thing) != 2 or type(thing[0]) is not str:
            return False
        return (thing[0] == "own" and integer(thing[1])) or (
            thing[0] == "box" and integer(thing[1], 0) and thing[1] < len(boxes))

    if not rows(processes, 3, born[0], lambda row: pages(row, what)):
        return False
    if not rows(snapshots, 3, born[1], lambda row: pages(row, integer)):
        return False
    holders = [[(row[0], page) for row in processes for page, has in row[2] if has == ("box", index)]
               for index in range(len(boxes))]
    return all(holders) and [min(held) for held in holders] == sorted(min(held) for held in holders)


def lets(tickets, page):
    numbers = [number for pages, number in tickets if page in pages]
    return numbers != [] and 0 not in numbers


def let_vectors(tickets, pages, most):
    """The set of all tuples that tell how often each of the pages stands in a row that is let, up to most."""
    found = set()
    for vector in product(range(most + 1), repeat=len(pages)):
        row = [page for page, many in zip(pages, vector) for _ in range(many)]
        left = tickets
        for page in row:
            if not lets(left, page):
                break
            left = [(held, number - (page in held)) for held, number in left]
        else:
            found.add(vector)
    return found


class Cell:
    """A cell that is one and the same, whatever becomes of it."""

    def __init__(self, content, sort, places, readers):
        self.content = content
        self.sort = sort
        self.places = set(places)
        self.readers = set(readers)


class House:
    """A house whose parts are changed as [2] tells of deeds and wishes."""

    def __init__(self, house):
        self.frames, self.slots = house[:2]
        self.groups = [list(group) for group in house[2]]
        self.born = list(house[3])
        self.processes = {row[0]: list(row[1:]) for row in house[4]}
        self.snapshots = {row[0]: [row[1], set(row[2])] for row in house[5]}
        self.cells = [Cell(*item) for item in house[6]]
        self.zeros = set(house[7])

    def tuple(self):
        cells = [(one.content, one.sort, tuple(sorted(one.places)), tuple(sorted(one.readers)))
                 for one in self.cells if one.places or one.readers]
        return (
            self.frames, self.slots, tuple(tuple(group) for group in self.groups), tuple(self.born),
            tuple((number, *self.processes[number]) for number in sorted(self.processes)),
            tuple((number, self.snapshots[number][0], tuple(sorted(self.snapshots[number][1])))
                  for number in sorted(self.snapshots)),
            tuple(sorted(cells)), tuple(sorted(self.zeros)),
        )

    def cell(self, place):
        for one in self.cells:
            if place in one.places:
                return one
        return None

    def is_gone(self, place):
        return place not in self.zeros and self.cell(place) is None

    def pages(self, process):
        many = self.processes[process][1]
        return [page for page in range(many) if not self.is_gone((process, page))]

    def error(self, step):
        """The name of the error and its fields, None if there is none."""
        word = step[0]
        looked = {"common": step[1], "send": (step[1], step[-1]), "back": step[2:]}.get(word, step[1:2])
        if word in ("begin", "group", "room", "frames", "slots", "forget"):
            looked = ()
        for process in looked:
            if process not in self.processes:
                return ("NoProcess", (process,))
        if word in ("write", "drop", "send") and self.is_gone(step[1:3]):
            return ("NoPlace", step[1:3])
        group = {"begin": 1, "fork": 2, "group": 1, "move": 2, "room": 1}.get(word)
        if group is not None and step[group] >= len(self.groups):
            return ("NoGroup", (step[group],))
        if word in ("forget", "back") and step[1] not in self.snapshots:
            return ("NoSnapshot", (step[1],))
        if word == "lessen" and not any(step[2] == held and step[3] <= n for held, n in self.processes[step[1]][2]):
            return ("NoTicket", step[1:3])
        return None

    def drop(self, place):
        self.zeros.discard(place)
        for one in self.cells:
            one.places.discard(place)
        self.cells = [one for one in self.cells if one.places or one.readers]

    def put(self, place, beside):
        """Puts a place where another one is."""
        one = self.cell(beside)
        if one is None:
            self.zeros.add(place)
        else:
            one.places.add(place)

    def come(self, group, many, tickets):
        self.processes[self.born[0]] = [group, many, tickets]
        self.born[0] += 1
        return self.born[0] - 1

    def grow(self, process, many):
        self.processes[process][1] += many
        return [(process, page) for page in range(self.processes[process][1] - many, self.processes[process][1])]

    def do(self, step):
        """Does a step that names what is there, and returns its answer."""
        return getattr(self, "do_" + step[0])(*step[1:]) or "done"

    def do_write(self, process, page, content):
        place = (process, page)
        one = self.cell(place)
        if one and (one.sort == "common" or (one.places == {place} and not one.readers)):
            one.content = content
            return "place"
        row = self.processes[process]
        if not lets(row[2], page):
            return "refused"
        row[2] = tuple((held, number - (page in held)) for held, number in row[2])
        self.drop(place)
        self.cells.append(Cell(content, "own", [place], []))
        return "copy"

    def do_drop(self, process, page):
        self.drop((process, page))

    def do_exit(self, process):
        for page in self.pages(process):
            self.drop((process, page))
        del self.processes[process]

    def do_lessen(self, process, held, number):
        row = self.processes[process]
        row[2] = tuple((one, number if one == held else old) for one, old in row[2])

    def do_forget(self, snapshot):
        for one in self.cells:
            one.readers = {reader for reader in one.readers if reader[0] != snapshot}
        del self.snapshots[snapshot]

    def do_begin(self, group, many, tickets):
        number = self.come(group, 0, tickets)
        self.zeros |= set(self.grow(number, many))

    def do_more(self, process, many):
        self.zeros |= set(self.grow(process, many))

    def do_raise(self, process, tickets):
        self.processes[process][2] = tickets

    def do_fork(self, process, group, tickets):
        number = self.come(group, self.processes[process][1], tickets)
        for page in self.pages(process):
            self.put((number, page), (process, page))

    def do_common(self, processes, many):
        for places in zip(*[self.grow(process, many) for process in processes]):
            self.cells.append(Cell(0, "common", places, []))

    def do_send(self, process, page, other):
        self.put(self.grow(other, 1)[0], (process, page))

    def do_snapshot(self, process):
        number = self.born[1]
        self.born[1] += 1
        self.snapshots[number] = [self.processes[process][1], set()]
        for page in self.pages(process):
            one = self.cell((process, page))
            if one is None:
                self.snapshots[number][1].add(page)
            elif one.sort == "own":
                one.readers.add((number, page))
            else:
                self.cells.append(Cell(one.content, "own", [], [(number, page)]))

    def do_back(self, snapshot, process):
        for page in self.pages(process):
            self.drop((process, page))
        row = self.processes[process]
        row[1] = max(row[1], self.snapshots[snapshot][0])
        self.zeros |= {(process, page) for page in self.snapshots[snapshot][1]}
        for one in self.cells:
            one.places |= {(process, page) for at, page in one.readers if at == snapshot}

    def do_group(self, above, held):
        self.groups.append([above, held])

    def do_move(self, process, group):
        self.processes[process][0] = group

    def do_room(self, group, held):
        self.groups[group][1] = held

    def do_frames(self, many):
        self.frames = many

    def do_slots(self, many):
        self.slots = many
