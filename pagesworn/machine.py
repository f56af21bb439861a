"""Machines: the cells of a house lie in frames and slots and are moved about there, and no read can tell."""

from pagesworn.deeds import behind_deed, cell_index, is_open, places_of_process
from pagesworn.flat import content_of_cell
from pagesworn.inside import is_kept
from pagesworn.layouts import first_layout, lies_at, near_found, near_swept, near_with, table_in
from pagesworn.wishes import behind_wish


def first_free(items):
    """The index of the first frame or slot that is free, None if there is none."""
    return items.index(None) if None in items else None


def holders(cell, moved):
    """What tells a cell from all others, ahead of a step and behind it: its readers, and places that are not moved."""
    places = [("place",) + place for place in cell[2] if place not in moved]
    return places + [("reader",) + reader for reader in cell[3]]


def cells_held(house, moved):
    """The dict from all holders of cells of a house to their cells."""
    return {holder: cell for cell in house[6] for holder in holders(cell, moved)}


def cell_behind(cell, held, moved):
    """What has become of an item of a layout, held being what holds cells behind the step; None if nothing has."""
    if cell is not None:
        for holder in holders(cell, moved):
            if holder in held:
                return held[holder]
    return None


class Machine:
    """A kept house whose cells lie in frames and slots, with a near-table, a mark for each frame, and a hand."""

    def __init__(self, house, near):
        frames, slots = first_layout(house)
        self._house = house
        self._frames = list(frames)
        self._slots = list(slots)
        self._most_near = near
        self._near = ()
        self._marks = [False] * len(frames)
        self._hand = 0
        self._hits = 0

    def house(self):
        """The house."""
        return self._house

    def layout(self):
        """The layout."""
        return (tuple(self._frames), tuple(self._slots))

    def near(self):
        """The near-table."""
        return self._near

    def marks(self):
        """The marks of the frames."""
        return tuple(self._marks)

    def hand(self):
        """The index of the frame where the hand is."""
        return self._hand

    def hits(self):
        """How many hits there were."""
        return self._hits

    def table(self, process):
        """The table of a process."""
        return table_in(self._house, self.layout(), process)

    def twin(self):
        """An independent machine in the same state."""
        other = Machine(self._house, self._most_near)
        other._frames = list(self._frames)
        other._slots = list(self._slots)
        other._near = self._near
        other._marks = list(self._marks)
        other._hand = self._hand
        other._hits = self._hits
        return other

    def read(self, process, page):
        """The content that a place shows; its cell is then in a frame."""
        index = cell_index(self._house, process, page)
        if index is not None:
            if near_found(self._near, (process, page)) is not None:
                self._hits += 1
            self._meet((process, page))
        return content_of_cell(self._house[6], index)

    def do(self, deed):
        """Does a deed, and returns its answer."""
        behind, answer = behind_deed(self._house, deed)
        if answer == "place":
            self._write(behind, deed[1:3])
        elif answer == "copy":
            self._copy(behind, deed[1:3])
        elif answer == "done":
            self._go_on(behind, ())
            self._sweep()
        return answer

    def wish(self, wish):
        """Does a wish if it is granted; tells whether it was granted or refused."""
        behind = behind_wish(self._house, wish)
        if not is_kept(behind):
            return "refused"
        new = self._go_on(behind, places_of_process(self._house, wish[2]) if wish[0] == "back" else ())
        self._refit()
        self._put_in(new)
        self._sweep()
        return "granted"

    def put_out(self, frame):
        """Brings the cell in a frame to a slot; tells whether it could be done."""
        slot = first_free(self._slots)
        if self._frames[frame] is None or slot is None:
            return False
        self._slots[slot] = self._frames[frame]
        self._frames[frame] = None
        self._marks[frame] = False
        self._sweep()
        return True

    def bring(self, slot):
        """Brings the cell in a slot to a frame; tells whether it could be done."""
        frame = first_free(self._frames)
        if self._slots[slot] is None or frame is None:
            return False
        self._frames[frame] = self._slots[slot]
        self._slots[slot] = None
        self._sweep()
        return True

    def turn(self, frame):
        """Puts the hand at a frame."""
        self._hand = frame

    def _clear(self, held):
        """Tells the frame that is to be cleared, which is not the one held; the hand goes on over it."""
        while True:
            frame = self._hand
            self._hand = (frame + 1) % len(self._frames)
            if frame != held and not self._marks[frame]:
                return frame
            if frame != held:
                self._marks[frame] = False

    def _fetch(self, place):
        """The frame where the cell of a place lies, which has come there if it lay in a slot, and is marked."""
        word, index = lies_at(self.layout(), place)
        if word == "slot":
            frame = first_free(self._frames)
            if frame is None:
                frame = self._clear(None)
            cell = self._slots[index]
            self._slots[index] = self._frames[frame]
            self._frames[frame] = cell
            index = frame
        self._marks[index] = True
        return index

    def _sweep(self):
        """Sweeps the near-table."""
        self._near = near_swept(self._near, self.layout())

    def _note(self, place, frame):
        """Puts a place, whose cell lies in a frame, into the near-table."""
        self._sweep()
        self._near = near_with(self._near, self._most_near, place + (frame, is_open(self._frames[frame])))

    def _meet(self, place):
        """Fetches the cell of a place, and puts the place into the near-table."""
        self._note(place, self._fetch(place))

    def _go_on(self, behind, moved):
        """Puts in the place of each cell what has become of it; returns the list of the new cells, which lie nowhere.

        moved are the places that have come to other cells, or perhaps to the same ones.
        """
        held = cells_held(behind, moved)
        self._frames = [cell_behind(cell, held, moved) for cell in self._frames]
        self._slots = [cell_behind(cell, held, moved) for cell in self._slots]
        self._marks = [mark and cell is not None for mark, cell in zip(self._marks, self._frames)]
        self._house = behind
        return [cell for cell in behind[6] if cell not in self._frames and cell not in self._slots]

    def _write(self, behind, place):
        """Does a write to a cell that has the content from then on."""
        row = near_found(self._near, place)
        if row is not None and row[1]:
            self._hits += 1
        self._meet(place)
        self._go_on(behind, ())

    def _copy(self, behind, place):
        """Does a write by which a new cell comes; this then lies in a frame."""
        held = None
        if lies_at(self.layout(), place) is not None:
            held = self._fetch(place)
        new = self._go_on(behind, (place,))[0]
        frame = first_free(self._frames)
        if frame is None:
            frame = self._clear(held)
            self._slots[first_free(self._slots)] = self._frames[frame]
        self._frames[frame] = new
        self._marks[frame] = True
        self._note(place, frame)

    def _put_in(self, cells):
        """Puts cells, one behind the other, into frames, or into slots where no frame is free."""
        for cell in cells:
            frame = first_free(self._frames)
            if frame is None:
                self._slots[first_free(self._slots)] = cell
            else:
                self._frames[frame] = cell

    def _refit(self):
        """Fits frames and slots to how many there are now; cells that lay in others are put in once more."""
        frames, slots = self._house[:2]
        going = self._frames[frames:] + self._slots[slots:]
        self._frames = (self._frames + [None] * frames)[:frames]
        self._slots = (self._slots + [None] * slots)[:slots]
        self._marks = (self._marks + [False] * frames)[:frames]
        if self._hand >= frames:
            self._hand = 0
        self._put_in([cell for cell in going if cell is not None])
