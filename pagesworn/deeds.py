"""Deeds: what processes do by themselves, and what they read."""

from pagesworn.errors import NoPlace, NoTicket
from pagesworn.flat import content_of_cell
from pagesworn.forests import lessened, lets, spent
from pagesworn.forms import group_of, named_group, named_place, named_processes, named_snapshot, places_of, process_of
from pagesworn.forms import snapshot_of, with_row, without_row


def cell_index(house, process, page):
    """The index of the cell that a place shows, None if it is in zeros."""
    process_of(house, process)
    places = places_of(house)
    if (process, page) not in places:
        raise NoPlace(process, page)
    return places[(process, page)]


def look_for_named(house, step):
    """Raises the error for the first thing that the step names and that is not there."""
    for process in named_processes(step):
        process_of(house, process)
    place = named_place(step)
    if place is not None:
        cell_index(house, place[0], place[1])
    group = named_group(step)
    if group is not None:
        group_of(house, group)
    snapshot = named_snapshot(step)
    if snapshot is not None:
        snapshot_of(house, snapshot)


def is_open(cell):
    """Whether a write to a place of the cell gives the cell its content."""
    return cell[1] == "common" or (len(cell[2]) == 1 and cell[3] == ())


def in_order(cells):
    """The cells that have places or readers left, as a house has them."""
    return tuple(sorted([cell for cell in cells if cell[2] != () or cell[3] != ()]))


def without_places(house, gone):
    """The house in which all places of the tuple gone are gone."""
    barred = {place: True for place in gone}
    cells = []
    for content, sort, places, readers in house[6]:
        cells.append((content, sort, tuple([place for place in places if place not in barred]), readers))
    zeros = tuple([place for place in house[7] if place not in barred])
    return house[:6] + (in_order(cells), zeros)


def places_of_process(house, process):
    """The tuple of the places of a process that are not gone."""
    return tuple([place for place in places_of(house) if place[0] == process])


def with_forest(house, process, forest):
    """The house in which a process has this forest."""
    group, many, _ = process_of(house, process)
    return house[:4] + (with_row(house[4], (process, group, many, forest)),) + house[5:]


def write_answer(house, process, page):
    """What a write to a place is answered, whatever its content."""
    index = cell_index(house, process, page)
    if index is not None and is_open(house[6][index]):
        return "place"
    return "copy" if lets(process_of(house, process)[2], page) else "refused"


def behind_place(house, process, page, content):
    """The house behind a write that is answered "place"."""
    index = cell_index(house, process, page)
    cells = house[6][:index] + ((content,) + house[6][index][1:],) + house[6][index + 1:]
    return house[:6] + (in_order(cells),) + house[7:]


def behind_copy(house, process, page, content):
    """The house behind a write that is answered "copy"."""
    place = (process, page)
    behind = with_forest(house, process, spent(process_of(house, process)[2], page))
    behind = without_places(behind, (place,))
    return behind[:6] + (in_order(behind[6] + ((content, "own", (place,), ()),)),) + behind[7:]


def behind_write(house, deed):
    """The house behind a write, and its answer."""
    _, process, page, content = deed
    answer = write_answer(house, process, page)
    if answer == "place":
        return (behind_place(house, process, page, content), answer)
    if answer == "copy":
        return (behind_copy(house, process, page, content), answer)
    return (house, answer)


def behind_drop(house, deed):
    """The house behind a drop, and its answer."""
    return (without_places(house, (deed[1:],)), "done")


def behind_exit(house, deed):
    """The house behind an exit, and its answer."""
    behind = without_places(house, places_of_process(house, deed[1]))
    return (behind[:4] + (without_row(behind[4], deed[1]),) + behind[5:], "done")


def behind_lessen(house, deed):
    """The house behind a lessen, and its answer."""
    _, process, lot, number = deed
    forest = process_of(house, process)[2]
    if not any([ticket[0] == lot and number <= ticket[1] for ticket in forest]):
        raise NoTicket(process, lot)
    return (with_forest(house, process, lessened(forest, lot, number)), "done")


def behind_forget(house, deed):
    """The house behind a forget, and its answer."""
    snapshot = deed[1]
    cells = []
    for content, sort, places, readers in house[6]:
        cells.append((content, sort, places, tuple([reader for reader in readers if reader[0] != snapshot])))
    return (house[:5] + (without_row(house[5], snapshot), in_order(cells)) + house[7:], "done")


DEEDS = {
    "write": behind_write,
    "drop": behind_drop,
    "exit": behind_exit,
    "lessen": behind_lessen,
    "forget": behind_forget,
}


def behind_deed(house, deed):
    """The house behind a deed, and its answer."""
    look_for_named(house, deed)
    action = DEEDS[deed[0]]
    return action(house, deed)


def behind_row(house, deeds):
    """The house behind all deeds, one behind the other, and the tuple of their answers."""
    behind = house
    answers = []
    for deed in deeds:
        behind, answer = behind_deed(behind, deed)
        answers.append(answer)
    return (behind, tuple(answers))


def read(house, process, page):
    """The content that a place shows."""
    return content_of_cell(house[6], cell_index(house, process, page))


def shown(house, process):
    """The dict from the pages of a process that are not gone to the contents that they show."""
    process_of(house, process)
    places = places_of(house)
    return {place[1]: content_of_cell(house[6], places[place]) for place in places_of_process(house, process)}
