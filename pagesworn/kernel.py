"""Kernels: a house that is always kept, with the flow that shows its need, and all that was done with it."""

from pagesworn.deeds import behind_deed, cell_index, look_for_named, places_of_process
from pagesworn.errors import Nothing, TooMany, Wrong
from pagesworn.flat import content_of_cell
from pagesworn.forms import is_deed, is_from_two, is_number, is_wish, places_of, readers_of
from pagesworn.keptflow import flow_behind, flow_behind_wish
from pagesworn.need import live
from pagesworn.refusals import answer_to
from pagesworn.wishes import behind_wish, first_house

MOST_PROCESSES = 12
MOST_SNAPSHOTS = 8
MOST_GROUPS = 6
MOST_PLACES = 120
MOST_READERS = 120


def more_places(house, wish):
    """How many more places are not gone behind a wish that names what is there; they are not made for it."""
    word = wish[0]
    if word in ("begin", "more"):
        return wish[2]
    if word == "fork":
        return len(places_of_process(house, wish[1]))
    if word == "common":
        return len(wish[1]) * wish[2]
    if word == "send":
        return 1
    if word == "back":
        coming = [reader for reader in readers_of(house) if reader[0] == wish[1]]
        return len(coming) - len(places_of_process(house, wish[2]))
    return 0


def more_readers(house, wish):
    """How many more readers and pages in the zeros of snapshots there are behind a wish that names what is there."""
    return len(places_of_process(house, wish[1])) if wish[0] == "snapshot" else 0


def look_for_too_many(house, wish):
    """Raises the error for the first number that is passed behind a wish that names what is there."""
    word = wish[0]
    rows = (
        (len(house[4]) + (1 if word in ("begin", "fork") else 0), MOST_PROCESSES),
        (len(house[5]) + (1 if word == "snapshot" else 0), MOST_SNAPSHOTS),
        (len(house[2]) + (1 if word == "group" else 0), MOST_GROUPS),
        (len(places_of(house)) + more_places(house, wish), MOST_PLACES),
        (len(readers_of(house)) + more_readers(house, wish), MOST_READERS),
    )
    for many, most in rows:
        if many > most:
            raise TooMany(most)


def look_at_wish(house, wish):
    """Raises the error for which a kernel with this house does not do a wish."""
    look_for_named(house, wish)
    look_for_too_many(house, wish)


class Kernel:
    """A kept house, with a greatest flow and the paper for the last wish, which can be led back and on again.

    states has what these three were at first, and behind each of the steps that were done or taken back; at is
    how many of the steps are done, and not taken back.
    """

    def __init__(self, frames, slots):
        if not is_from_two(frames):
            raise Wrong(0)
        if not is_number(slots):
            raise Wrong(1)
        self._steps = []
        self._states = [(first_house(frames, slots), (), None)]
        self._go_to(0)

    def __eq__(self, other):
        return isinstance(other, Kernel) and self._house == other._house

    def do(self, deed):
        """Does a deed, and returns its answer."""
        if not is_deed(deed):
            raise Wrong(0)
        behind, answer = behind_deed(self._house, deed)
        self._keep(deed, answer, (behind, flow_behind(self._house, self._flow, deed), self._paper))
        return answer

    def wish(self, wish):
        """Does a wish if it is granted; tells whether it was granted or refused."""
        if not is_wish(wish):
            raise Wrong(0)
        look_at_wish(self._house, wish)
        answer = answer_to(self._house, wish)
        behind, flow = self._house, self._flow
        if answer[0] == "granted":
            behind, flow = behind_wish(self._house, wish), flow_behind_wish(self._house, self._flow, wish)
        self._keep(wish, answer[0], (behind, flow, (wish, answer)))
        return answer[0]

    def read(self, process, page):
        """The content that a place shows."""
        if not is_number(process):
            raise Wrong(0)
        if not is_number(page):
            raise Wrong(1)
        return content_of_cell(self._house[6], cell_index(self._house, process, page))

    def house(self):
        """The house."""
        return self._house

    def need(self):
        """The need of the house: the flow that is kept tells it."""
        return live(self._house) + len(self._flow)

    def flow(self):
        """A greatest flow of the house."""
        return self._flow

    def paper(self):
        """The last wish, and what answered it, None if there was none."""
        return self._paper

    def log(self):
        """All deeds and wishes that are done, each with its answer."""
        return tuple(self._steps[:self._at])

    def undo(self):
        """Takes the last deed or wish back."""
        if self._at == 0:
            raise Nothing()
        self._go_to(self._at - 1)

    def redo(self):
        """Does the deed or wish once more that was taken back last."""
        if self._at == len(self._steps):
            raise Nothing()
        self._go_to(self._at + 1)

    def twin(self):
        """An independent kernel in the same state."""
        other = Kernel(self._house[0], self._house[1])
        other._steps = list(self._steps)
        other._states = list(self._states)
        other._go_to(self._at)
        return other

    def _go_to(self, at):
        """Makes the state behind so many steps the one that holds."""
        self._at = at
        self._house, self._flow, self._paper = self._states[at]

    def _keep(self, step, answer, state):
        """Puts a step, and the state behind it, behind those that are done; none can be done once more then."""
        self._steps = self._steps[:self._at] + [(step, answer)]
        self._states = self._states[:self._at + 1] + [state]
        self._go_to(self._at + 1)
