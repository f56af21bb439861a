"""Wishes: what is granted or refused, and the house behind each, granted or not."""

from pagesworn.deeds import cell_index, in_order, look_for_named, places_of_process, with_forest, without_places
from pagesworn.forms import group_of, places_of, process_of, readers_of, snapshot_of, with_row


def first_house(frames, slots):
    """The house with group 0 alone, in which nothing was ever born."""
    return (frames, slots, ((None, None),), (0, 0), (), (), (), ())


def with_places(house, added):
    """The house with more places: for each tuple (place, index) in that cell, or in zeros if index is None."""
    new = [[] for _ in house[6]]
    zeros = list(house[7])
    for place, index in added:
        if index is None:
            zeros.append(place)
        else:
            new[index].append(place)
    cells = []
    for (content, sort, places, readers), more in zip(house[6], new):
        cells.append((content, sort, tuple(sorted(list(places) + more)), readers))
    return house[:6] + (in_order(cells), tuple(sorted(zeros)))


def with_cells(house, cells):
    """The house with these cells more."""
    return house[:6] + (in_order(house[6] + tuple(cells)),) + house[7:]


def with_many(house, process, many):
    """The house in which a process has so many pages."""
    group, _, forest = process_of(house, process)
    return house[:4] + (with_row(house[4], (process, group, many, forest)),) + house[5:]


def with_next_process(house, group, many, forest):
    """The house in which a process with the next number has come, all its pages being gone."""
    number, snapshots = house[3]
    row = (number, group, many, forest)
    return house[:3] + ((number + 1, snapshots), house[4] + (row,)) + house[5:]


def behind_begin(house, wish):
    """A process comes, all its pages in zeros."""
    _, group, many, forest = wish
    number = house[3][0]
    behind = with_next_process(house, group, many, forest)
    return with_places(behind, [((number, page), None) for page in range(many)])


def behind_more(house, wish):
    """A process has more pages, in zeros."""
    _, process, more = wish
    many = process_of(house, process)[1]
    behind = with_many(house, process, many + more)
    return with_places(behind, [((process, page), None) for page in range(many, many + more)])


def behind_raise(house, wish):
    """A process has another forest."""
    return with_forest(house, wish[1], wish[2])


def behind_fork(house, wish):
    """A process comes whose pages show what those of the parent do."""
    _, process, group, forest = wish
    number = house[3][0]
    places = places_of(house)
    added = [((number, place[1]), places[place]) for place in places_of_process(house, process)]
    many = process_of(house, process)[1]
    return with_places(with_next_process(house, group, many, forest), added)


def behind_common(house, wish):
    """Several processes have more pages, which they have in common."""
    _, processes, more = wish
    behind = house
    manies = [process_of(house, process)[1] for process in processes]
    for process, many in zip(processes, manies):
        behind = with_many(behind, process, many + more)
    cells = []
    for index in range(more):
        places = tuple([(process, many + index) for process, many in zip(processes, manies)])
        cells.append((0, "common", places, ()))
    return with_cells(behind, cells)


def behind_send(house, wish):
    """The other process has one page more, which shows what the place does."""
    _, process, page, other = wish
    many = process_of(house, other)[1]
    behind = with_many(house, other, many + 1)
    return with_places(behind, [((other, many), cell_index(house, process, page))])


def behind_snapshot(house, wish):
    """A snapshot of a process comes."""
    process = wish[1]
    processes, number = house[3]
    cells = []
    for content, sort, held, readers in house[6]:
        new = tuple([(number, page) for at, page in held if at == process])
        if sort == "own":
            # They stand behind all others, as no other snapshot has so great a number.
            cells.append((content, sort, held, readers + new))
        else:
            cells.append((content, sort, held, readers))
            cells.extend([(content, "own", (), (reader,)) for reader in new])
    zeros = tuple([page for at, page in house[7] if at == process])
    row = (number, process_of(house, process)[1], zeros)
    return house[:3] + ((processes, number + 1), house[4], house[5] + (row,), in_order(cells), house[7])


def behind_back(house, wish):
    """The pages of a process show what a snapshot has, and nothing else."""
    _, snapshot, process = wish
    behind = without_places(house, places_of_process(house, process))
    many = max(process_of(house, process)[1], snapshot_of(house, snapshot)[0])
    readers = readers_of(behind)
    added = [((process, reader[1]), readers[reader]) for reader in readers if reader[0] == snapshot]
    return with_places(with_many(behind, process, many), added)


def behind_group(house, wish):
    """A group comes."""
    return house[:2] + (house[2] + (wish[1:],),) + house[3:]


def behind_move(house, wish):
    """A process is in another group."""
    _, process, group = wish
    _, many, forest = process_of(house, process)
    return house[:4] + (with_row(house[4], (process, group, many, forest)),) + house[5:]


def behind_room(house, wish):
    """A group has another room."""
    _, group, room = wish
    above = group_of(house, group)[0]
    return house[:2] + (house[2][:group] + ((above, room),) + house[2][group + 1:],) + house[3:]


def behind_frames(house, wish):
    """There are so many frames."""
    return (wish[1],) + house[1:]


def behind_slots(house, wish):
    """There are so many slots."""
    return (house[0], wish[1]) + house[2:]


WISHES = {
    "begin": behind_begin,
    "more": behind_more,
    "raise": behind_raise,
    "fork": behind_fork,
    "common": behind_common,
    "send": behind_send,
    "snapshot": behind_snapshot,
    "back": behind_back,
    "group": behind_group,
    "move": behind_move,
    "room": behind_room,
    "frames": behind_frames,
    "slots": behind_slots,
}


def behind_wish(house, wish):
    """The house behind a wish, whether it is granted or not."""
    look_for_named(house, wish)
    action = WISHES[wish[0]]
    return action(house, wish)
