"""Layouts and near-tables: in which frames and slots the cells lie, and which places were met last."""

from pagesworn.deeds import is_open
from pagesworn.forms import is_cell, is_row, places_of, process_of
from pagesworn.tables import depth_for, table_of


def is_layout(house, thing):
    """Whether thing is a layout of the house: a tuple (frames, slots)."""
    if not is_row(thing, 2) or not is_row(thing[0], house[0]) or not is_row(thing[1], house[1]):
        return False
    cells = [item for item in thing[0] + thing[1] if item is not None]
    return all([is_cell(item) for item in cells]) and sorted(cells) == list(house[6])


def first_layout(house):
    """The layout in which the cells lie in order, in the frames first, then in the slots."""
    frames, slots, cells = house[0], house[1], house[6]
    items = cells + (None,) * (frames + slots - len(cells))
    return (items[:frames], items[frames:])


def lies_at(layout, place):
    """Where the cell of a place lies: a tuple ("frame", index) or ("slot", index), None if it is nowhere there."""
    for word, items in zip(("frame", "slot"), layout):
        for index, cell in enumerate(items):
            if cell is not None and place in cell[2]:
                return (word, index)
    return None


def meaning(layout):
    """The dict from all places of all cells there to the contents of these."""
    contents = {}
    for cell in layout[0] + layout[1]:
        if cell is not None:
            for place in cell[2]:
                contents[place] = cell[0]
    return {place: contents[place] for place in sorted(contents)}


def entry_of(layout, place):
    """The entry of a place that is not gone."""
    found = lies_at(layout, place)
    if found is None:
        return ("zero", 0, False)
    word, index = found
    return (word, index, word == "frame" and is_open(layout[0][index]))


def table_in(house, layout, process):
    """The table of a process, whose cells lie as the layout tells."""
    many = process_of(house, process)[1]
    pages = [place[1] for place in places_of(house) if place[0] == process]
    return table_of(depth_for(many), {page: entry_of(layout, (process, page)) for page in pages})


def near_found(near, place):
    """The tuple (frame, is_open) that the near-table has for a place, None if it has none."""
    for row in near:
        if row[:2] == place:
            return row[2:]
    return None


def near_with(near, most, entry):
    """The near-table with an entry first, behind it those of other places, of all these at most so many."""
    return ((entry,) + tuple([row for row in near if row[:2] != entry[:2]]))[:most]


def near_swept(near, layout):
    """The near-table without the places that are no longer in the cell in their frame; closed where they are."""
    frames = layout[0]
    found = []
    for process, page, frame, was_open in near:
        cell = frames[frame] if frame < len(frames) else None
        if cell is not None and (process, page) in cell[2]:
            found.append((process, page, frame, was_open and is_open(cell)))
    return tuple(found)
