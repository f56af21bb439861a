"""Flat memories: what all pages show, as if nothing but common pages were shared."""

from pagesworn.errors import NoPlace, NoProcess, NoSnapshot
from pagesworn.forms import ascends, is_below, is_integer, is_number, is_number_pair, is_row, named_place
from pagesworn.forms import named_processes, named_snapshot, places_of, readers_of, row_with, with_row, without_row


def is_what(thing):
    """Whether thing can be what a page has: a content of its own, or a box."""
    if not is_row(thing, 2) or not isinstance(thing[0], str):
        return False
    return (thing[0] == "own" and is_integer(thing[1])) or (thing[0] == "box" and is_number(thing[1]))


def is_flat_row(thing, beyond, check):
    """Whether thing is a tuple (number, many, pages), check telling what a page can have."""
    if not is_row(thing, 3) or not isinstance(thing[2], tuple):
        return False
    number, many, pages = thing
    if not is_below(number, beyond) or not is_number(many):
        return False
    for item in pages:
        if not is_row(item, 2) or not is_below(item[0], many) or not check(item[1]):
            return False
    return ascends([item[0] for item in pages])


def are_flat_rows(thing, beyond, check):
    """Whether thing can be the processes, or the snapshots, of a flat memory."""
    if not isinstance(thing, tuple) or not all([is_flat_row(row, beyond, check) for row in thing]):
        return False
    return ascends([row[0] for row in thing])


def boxes_in_order(processes):
    """The list of the indexes of boxes that pages have, in the order of the least places that have them."""
    found = {}
    for row in processes:
        for _, what in row[2]:
            if what[0] == "box":
                found[what[1]] = True
    return list(found)


def is_flat(thing):
    """Whether thing is a flat memory."""
    if not is_row(thing, 4) or not is_number_pair(thing[0]):
        return False
    born, processes, snapshots, boxes = thing
    if not are_flat_rows(processes, born[0], is_what) or not are_flat_rows(snapshots, born[1], is_integer):
        return False
    if not isinstance(boxes, tuple) or not all([is_integer(content) for content in boxes]):
        return False
    return boxes_in_order(processes) == list(range(len(boxes)))


def first_flat():
    """The flat memory of no processes and no snapshots."""
    return ((0, 0), (), (), ())


def renamed(what, index_of):
    """What a page has, its box, if it has one, having the index that index_of tells."""
    return ("box", index_of[what[1]]) if what[0] == "box" else what


def tidied(born, processes, snapshots, boxes):
    """The flat memory of these parts: boxes that no page has go, and the others are put in order."""
    order = boxes_in_order(processes)
    index_of = {old: new for new, old in enumerate(order)}
    rows = []
    for number, many, pages in processes:
        rows.append((number, many, tuple([(page, renamed(what, index_of)) for page, what in pages])))
    return (born, tuple(rows), snapshots, tuple([boxes[old] for old in order]))


def what_of_cell(cells, index):
    """What a page has that shows the cell with this index, or a zero if this is None."""
    if index is None:
        return ("own", 0)
    content, sort = cells[index][:2]
    return ("box", index) if sort == "common" else ("own", content)


def content_of_cell(cells, index):
    """The content of the cell with this index, 0 if this is None."""
    return 0 if index is None else cells[index][0]


def pages_with(found, number):
    """The pages of one process or snapshot, with what they have, out of a dict from (number, page)."""
    return tuple([(page, found[(at, page)]) for at, page in found if at == number])


def flat_of(house):
    """The flat memory of what a house shows."""
    cells = house[6]
    places, readers = places_of(house), readers_of(house)
    whats = {place: what_of_cell(cells, places[place]) for place in places}
    contents = {reader: content_of_cell(cells, readers[reader]) for reader in readers}
    processes = tuple([(row[0], row[2], pages_with(whats, row[0])) for row in house[4]])
    snapshots = tuple([(row[0], row[1], pages_with(contents, row[0])) for row in house[5]])
    return tidied(house[3], processes, snapshots, tuple([cell[0] for cell in cells]))


def same_shown(house, flat):
    """Whether flat is just what a house shows."""
    return flat_of(house) == flat


def flat_process(flat, process):
    """The tuple (number, many, pages) of a process."""
    row = row_with(flat[1], process)
    if row is None:
        raise NoProcess(process)
    return row


def flat_snapshot(flat, snapshot):
    """The tuple (number, many, pages) of a snapshot."""
    row = row_with(flat[2], snapshot)
    if row is None:
        raise NoSnapshot(snapshot)
    return row


def what_at(flat, process, page):
    """What a place has: a content of its own, or a box."""
    item = row_with(flat_process(flat, process)[2], page)
    if item is None:
        raise NoPlace(process, page)
    return item[1]


def content_of_what(flat, what):
    """The content that a page shows that has this."""
    return flat[3][what[1]] if what[0] == "box" else what[1]


def flat_read(flat, process, page):
    """The content that a place shows."""
    return content_of_what(flat, what_at(flat, process, page))


def with_process(flat, row):
    """The flat memory with row in the place of the process of its number."""
    return tidied(flat[0], with_row(flat[1], row), flat[2], flat[3])


def flat_write(flat, step):
    """Behind a write: the place has the content, as its own or in its box."""
    _, process, page, content = step
    what = what_at(flat, process, page)
    if what[0] == "box":
        boxes = flat[3][:what[1]] + (content,) + flat[3][what[1] + 1:]
        return flat[:3] + (boxes,)
    number, many, pages = flat_process(flat, process)
    return with_process(flat, (number, many, with_row(pages, (page, ("own", content)))))


def flat_drop(flat, step):
    """Behind a drop: the place is gone."""
    number, many, pages = flat_process(flat, step[1])
    return with_process(flat, (number, many, without_row(pages, step[2])))


def flat_exit(flat, step):
    """Behind an exit: the process is no longer there."""
    return tidied(flat[0], without_row(flat[1], step[1]), flat[2], flat[3])


def flat_forget(flat, step):
    """Behind a forget: the snapshot is no longer there."""
    return flat[:2] + (without_row(flat[2], step[1]),) + flat[3:]


def flat_born(flat, many, pages):
    """Behind a process with the next number comes, with these pages."""
    born, processes, snapshots, boxes = flat
    return tidied((born[0] + 1, born[1]), processes + ((born[0], many, pages),), snapshots, boxes)


def flat_begin(flat, step):
    """Behind a begin: a process with zeros."""
    return flat_born(flat, step[2], tuple([(page, ("own", 0)) for page in range(step[2])]))


def flat_more(flat, step):
    """Behind a more: so many pages more, with zeros."""
    number, many, pages = flat_process(flat, step[1])
    new = tuple([(page, ("own", 0)) for page in range(many, many + step[2])])
    return with_process(flat, (number, many + step[2], pages + new))


def flat_fork(flat, step):
    """Behind a fork: a process with what the parent has."""
    _, many, pages = flat_process(flat, step[1])
    return flat_born(flat, many, pages)


def flat_common(flat, step):
    """Behind a common: for each of the new pages a box, for all processes told."""
    _, processes, more = step
    rows = flat[1]
    for process in processes:
        number, many, pages = flat_process(flat, process)
        new = tuple([(many + index, ("box", len(flat[3]) + index)) for index in range(more)])
        rows = with_row(rows, (number, many + more, pages + new))
    return tidied(flat[0], rows, flat[2], flat[3] + (0,) * more)


def flat_send(flat, step):
    """Behind a send: the other process has one page more, with what the place has."""
    number, many, pages = flat_process(flat, step[3])
    what = what_at(flat, step[1], step[2])
    return with_process(flat, (number, many + 1, pages + ((many, what),)))


def flat_taken(flat, step):
    """Behind a snapshot: the next one comes, with what the pages of the process show."""
    _, many, pages = flat_process(flat, step[1])
    born, processes, snapshots, boxes = flat
    contents = tuple([(page, content_of_what(flat, what)) for page, what in pages])
    return ((born[0], born[1] + 1), processes, snapshots + ((born[1], many, contents),), boxes)


def flat_back(flat, step):
    """Behind a back: the process has just the pages of the snapshot, as its own."""
    _, most, contents = flat_snapshot(flat, step[1])
    number, many, _ = flat_process(flat, step[2])
    pages = tuple([(page, ("own", content)) for page, content in contents])
    return with_process(flat, (number, max(many, most), pages))


FLAT_STEPS = {
    "write": flat_write,
    "drop": flat_drop,
    "exit": flat_exit,
    "forget": flat_forget,
    "begin": flat_begin,
    "more": flat_more,
    "fork": flat_fork,
    "common": flat_common,
    "send": flat_send,
    "snapshot": flat_taken,
    "back": flat_back,
}


def look_in_flat(flat, step):
    """Raises the error for the first thing that the step names and that is not there."""
    for process in named_processes(step):
        flat_process(flat, process)
    place = named_place(step)
    if place is not None:
        what_at(flat, place[0], place[1])
    snapshot = named_snapshot(step)
    if snapshot is not None:
        flat_snapshot(flat, snapshot)


def flat_behind(flat, step, is_done):
    """The flat memory behind a deed or a wish, flat itself if it is not done."""
    look_in_flat(flat, step)
    if not is_done or step[0] not in FLAT_STEPS:
        return flat
    action = FLAT_STEPS[step[0]]
    return action(flat, step)


def flat_behind_row(flat, steps):
    """The flat memory behind all tuples (step, is_done), one behind the other."""
    behind = flat
    for step, is_done in steps:
        behind = flat_behind(behind, step, is_done)
    return behind
