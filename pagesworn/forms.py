"""Forms: which values are what their names say, and what stands where in a house and in a step."""

from pagesworn.errors import NoGroup, NoProcess, NoSnapshot


def is_integer(thing):
    """Whether thing is an integer; True and False are none."""
    return isinstance(thing, int) and not isinstance(thing, bool)


def is_number(thing):
    """Whether thing is an integer from 0 on."""
    return is_integer(thing) and thing >= 0


def is_below(thing, beyond):
    """Whether thing is an integer from 0 on that is less than beyond."""
    return is_number(thing) and thing < beyond


def is_row(thing, many):
    """Whether thing is a tuple of so many parts."""
    return isinstance(thing, tuple) and len(thing) == many


def ascends(things):
    """Whether things that can be compared stand in order, none of them twice."""
    return all([things[index] < things[index + 1] for index in range(len(things) - 1)])


def is_lot(thing):
    """Whether thing is a lot of integers from 0 on."""
    return isinstance(thing, tuple) and all([is_number(item) for item in thing]) and ascends(thing)


def is_some_lot(thing):
    """Whether thing is a lot of integers from 0 on that is not empty."""
    return is_lot(thing) and len(thing) > 0


def is_number_pair(thing):
    """Whether thing is a tuple of two integers from 0 on."""
    return is_row(thing, 2) and is_number(thing[0]) and is_number(thing[1])


def is_place(thing):
    """Whether thing is a place: a tuple (process, page)."""
    return is_number_pair(thing)


def is_lot_of_pairs(thing):
    """Whether thing is a lot of tuples of two integers from 0 on: of places, or of readers."""
    return isinstance(thing, tuple) and all([is_number_pair(item) for item in thing]) and ascends(thing)


def is_ticket(thing):
    """Whether thing is a ticket: a tuple (lot, number)."""
    return is_row(thing, 2) and is_some_lot(thing[0]) and is_number(thing[1])


def is_forest(thing):
    """Whether thing is a forest: tickets in order, whose lots are nested or apart."""
    if not isinstance(thing, tuple) or not all([is_ticket(item) for item in thing]):
        return False
    lots = [ticket[0] for ticket in thing]
    return ascends(lots) and are_nested(lots)


def are_nested(lots):
    """Whether of any two of the lots, no two the same, one lies in the other or they are apart.

    The longest ones come first, so that none lies around one that came before it: its pages then
    must all be in the same innermost lot so far, or all be in none.
    """
    innermost = {}
    for index, lot in enumerate(sorted(lots, key=lambda pages: -len(pages))):
        holders = [innermost.get(page) for page in lot]
        if holders.count(holders[0]) < len(holders):
            return False
        for page in lot:
            innermost[page] = index
    return True


def is_cell(thing):
    """Whether thing is a cell: a tuple (content, sort, places, readers)."""
    if not is_row(thing, 4) or not is_integer(thing[0]) or not isinstance(thing[1], str):
        return False
    sort, places, readers = thing[1:]
    if not is_lot_of_pairs(places) or not is_lot_of_pairs(readers):
        return False
    if sort == "common":
        return places != () and readers == ()
    return sort == "own" and (places != () or readers != ())


def is_room(thing):
    """Whether thing is the room of a group: an integer from 0 on, or None."""
    return thing is None or is_number(thing)


def is_group_at(index, thing):
    """Whether thing can stand at this index, from 1 on, among the groups."""
    return is_row(thing, 2) and is_below(thing[0], index) and is_room(thing[1])


def are_groups(thing):
    """Whether thing can be the groups of a house."""
    if not isinstance(thing, tuple) or thing[:1] != ((None, None),):
        return False
    return all([is_group_at(index, thing[index]) for index in range(1, len(thing))])


def is_process_row(thing, groups_many, beyond):
    """Whether thing is a tuple (number, group, many, forest), with a number below beyond."""
    if not is_row(thing, 4):
        return False
    number, group, many, forest = thing
    return is_below(number, beyond) and is_below(group, groups_many) and is_number(many) and is_forest(forest)


def are_process_rows(thing, groups_many, beyond):
    """Whether thing can be the processes of a house."""
    if not isinstance(thing, tuple) or not all([is_process_row(row, groups_many, beyond) for row in thing]):
        return False
    return ascends([row[0] for row in thing])


def is_snapshot_row(thing, beyond):
    """Whether thing is a tuple (number, many, zeros), with a number below beyond."""
    if not is_row(thing, 3):
        return False
    number, many, zeros = thing
    return is_below(number, beyond) and is_number(many) and is_lot(zeros)


def are_snapshot_rows(thing, beyond):
    """Whether thing can be the snapshots of a house; whether their zeros are below many is not asked."""
    if not isinstance(thing, tuple) or not all([is_snapshot_row(row, beyond) for row in thing]):
        return False
    return ascends([row[0] for row in thing])


def are_cells(thing):
    """Whether thing is an ascending tuple of cells."""
    return isinstance(thing, tuple) and all([is_cell(item) for item in thing]) and ascends(thing)


def are_pages_once(pairs, manies):
    """Whether each of the pairs (number, page) has a number of manies and a page below its many, and none is twice."""
    for number, page in pairs:
        if number not in manies or page >= manies[number]:
            return False
    return len(set(pairs)) == len(pairs)


def is_house(thing):
    """Whether thing is a house."""
    if not is_row(thing, 8):
        return False
    frames, slots, groups, born, processes, snapshots, cells, zeros = thing
    if not is_number(frames) or frames < 2 or not is_number(slots):
        return False
    if not are_groups(groups) or not is_number_pair(born):
        return False
    if not are_process_rows(processes, len(groups), born[0]) or not are_snapshot_rows(snapshots, born[1]):
        return False
    if not are_cells(cells) or not is_lot_of_pairs(zeros):
        return False
    places = [place for cell in cells for place in cell[2]] + list(zeros)
    readers = [reader for cell in cells for reader in cell[3]]
    readers = readers + [(row[0], page) for row in snapshots for page in row[2]]
    are_places_once = are_pages_once(places, {row[0]: row[2] for row in processes})
    return are_places_once and are_pages_once(readers, {row[0]: row[1] for row in snapshots})


def is_from_one(thing):
    """Whether thing is an integer from 1 on."""
    return is_number(thing) and thing >= 1


def is_from_two(thing):
    """Whether thing is an integer from 2 on."""
    return is_number(thing) and thing >= 2


KINDS = {
    "integer": is_integer,
    "number": is_number,
    "from one": is_from_one,
    "from two": is_from_two,
    "room": is_room,
    "some lot": is_some_lot,
    "forest": is_forest,
}

DEED_KINDS = {
    "write": ("number", "number", "integer"),
    "drop": ("number", "number"),
    "exit": ("number",),
    "lessen": ("number", "some lot", "number"),
    "forget": ("number",),
}

WISH_KINDS = {
    "begin": ("number", "number", "forest"),
    "more": ("number", "from one"),
    "raise": ("number", "forest"),
    "fork": ("number", "number", "forest"),
    "common": ("some lot", "from one"),
    "send": ("number", "number", "number"),
    "snapshot": ("number",),
    "back": ("number", "number"),
    "group": ("number", "room"),
    "move": ("number", "number"),
    "room": ("from one", "room"),
    "frames": ("from two",),
    "slots": ("number",),
}


def is_of_kind(kind, thing):
    """Whether thing is of a kind of KINDS."""
    check = KINDS[kind]
    return check(thing)


def are_of_kinds(kinds, things):
    """Whether the tuple things has just one thing of each kind, in order."""
    return len(things) == len(kinds) and all([is_of_kind(kind, thing) for kind, thing in zip(kinds, things)])


def has_word(thing):
    """Whether thing is a tuple that begins with a string."""
    return isinstance(thing, tuple) and len(thing) > 0 and isinstance(thing[0], str)


def is_deed(thing):
    """Whether thing is a deed."""
    return has_word(thing) and thing[0] in DEED_KINDS and are_of_kinds(DEED_KINDS[thing[0]], thing[1:])


def is_wish(thing):
    """Whether thing is a wish."""
    return has_word(thing) and thing[0] in WISH_KINDS and are_of_kinds(WISH_KINDS[thing[0]], thing[1:])


def places_of(house):
    """For each place that is not gone the index of the cell that it shows, None if it is in zeros."""
    found = {place: None for place in house[7]}
    for index, cell in enumerate(house[6]):
        for place in cell[2]:
            found[place] = index
    return {place: found[place] for place in sorted(found)}


def readers_of(house):
    """For each page of a snapshot the index of the cell of which it is a reader, None if it is in the zeros."""
    found = {(row[0], page): None for row in house[5] for page in row[2]}
    for index, cell in enumerate(house[6]):
        for reader in cell[3]:
            found[reader] = index
    return {reader: found[reader] for reader in sorted(found)}


def row_with(rows, number):
    """The row that begins with this number, any value, None if there is none."""
    if is_integer(number):
        for row in rows:
            if row[0] == number:
                return row
    return None


def process_of(house, process):
    """The tuple (group, many, forest) of a process; process is any value."""
    row = row_with(house[4], process)
    if row is None:
        raise NoProcess(process)
    return row[1:]


def snapshot_of(house, snapshot):
    """The tuple (many, zeros) of a snapshot; snapshot is any value."""
    row = row_with(house[5], snapshot)
    if row is None:
        raise NoSnapshot(snapshot)
    return row[1:]


def group_of(house, group):
    """The tuple (above, room) of a group; group is any value."""
    if not is_number(group) or group >= len(house[2]):
        raise NoGroup(group)
    return house[2][group]


def named_processes(step):
    """The processes that a deed or a wish names, in the order in which they are looked for."""
    if step[0] == "common":
        return step[1]
    if step[0] == "send":
        return (step[1], step[3])
    if step[0] == "back":
        return (step[2],)
    if step[0] in ("forget", "begin", "group", "room", "frames", "slots"):
        return ()
    return (step[1],)


def named_place(step):
    """The place that a deed or a wish names, None if it names none."""
    if step[0] in ("write", "drop", "send"):
        return (step[1], step[2])
    return None


def named_group(step):
    """The group that a deed or a wish names, None if it names none."""
    if step[0] in ("begin", "group", "room"):
        return step[1]
    if step[0] in ("fork", "move"):
        return step[2]
    return None


def named_snapshot(step):
    """The snapshot that a deed or a wish names, None if it names none."""
    if step[0] in ("forget", "back"):
        return step[1]
    return None


def with_row(rows, row):
    """The rows, in which row stands in the place of the one with the same number."""
    return tuple([row if old[0] == row[0] else old for old in rows])


def without_row(rows, number):
    """The rows without the one with this number."""
    return tuple([row for row in rows if row[0] != number])
