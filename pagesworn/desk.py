"""Desks: a kernel that is led by lines of text."""

from pagesworn.children import most_children
from pagesworn.errors import NoCommand, NoGroup, NoPlace, NoProcess, NoSnapshot, NoText, NoTicket, Nothing, SwornError
from pagesworn.errors import TooMany, Wrong
from pagesworn.forms import is_deed, is_forest, is_wish
from pagesworn.inside import group_live, group_need
from pagesworn.kernel import Kernel, look_at_wish
from pagesworn.need import capacity, live
from pagesworn.texts import deed_line, forest_in, house_text, lot_word, numbers_in, pair_row, rows_of, step_in, steps_in
from pagesworn.texts import words_of
from pagesworn.worths import who_can_give


def undo_lines(kernel):
    """What "undo" tells."""
    kernel.undo()
    return ["done"]


def redo_lines(kernel):
    """What "redo" tells."""
    kernel.redo()
    return ["done"]


def need_lines(kernel):
    """What "need" tells."""
    house = kernel.house()
    return [f"{live(house)} {kernel.need()} {capacity(house)}"]


def group_lines(kernel):
    """What "groups" tells."""
    house = kernel.house()
    rows = [(group, row[1]) for group, row in enumerate(house[2]) if row[1] is not None]
    return [f"{group} {group_live(house, group)} {group_need(house, group)} {room}" for group, room in rows]


def house_lines(kernel):
    """What "house" tells."""
    return house_text(kernel.house()).split("\n")


def held_word(group):
    """The word of a group, or of capacity, which papers tell as None."""
    return "capacity" if group is None else str(group)


def cut_words(cut):
    """The words of the three lots of a cut."""
    return " ".join([lot_word(part) if part != () else "none" for part in cut])


def why_lines(kernel):
    """What "why" tells."""
    if kernel.paper() is None:
        return []
    answer, shown = kernel.paper()[1]
    if answer == "refused":
        return [f"refused {held_word(shown[0])}"] + [deed_line(deed) for deed in shown[1]]
    return ["granted"] + [f"{held_word(group)} {cut_words(cut)}" for group, cut in shown]


ALONE = {
    "undo": undo_lines,
    "redo": redo_lines,
    "need": need_lines,
    "groups": group_lines,
    "house": house_lines,
    "why": why_lines,
}


def give_lines(kernel, words):
    """What "give" and the words of a wish tell."""
    wish = step_in(words)
    if not is_wish(wish):
        raise NoCommand(words)
    house = kernel.house()
    look_at_wish(house, wish)
    return [f"{process} {lot_word(lot)} {number}" for process, lot, number in who_can_give(house, wish)]


def most_lines(kernel, words):
    """What "most" and the words of a process, a group and a forest tell."""
    process, group = numbers_in(words, 2)
    forest = forest_in(words[2:])
    if not is_forest(forest):
        raise NoCommand(words)
    many = most_children(kernel.house(), process, group, forest)
    return ["all" if many is None else str(many)]


def step_answer(kernel, step):
    """What the kernel answers to a step."""
    if step[0] == "read":
        return kernel.read(step[1], step[2])
    return kernel.do(step) if is_deed(step) else kernel.wish(step)


def command_lines(kernel, words):
    """What the words of a line tell; an error of the kernel is raised."""
    if words == []:
        raise NoCommand(words)
    if words[0] == "give":
        return give_lines(kernel, words[1:])
    if words[0] == "most":
        return most_lines(kernel, words[1:])
    if words[0] in ALONE and len(words) == 1:
        action = ALONE[words[0]]
        return action(kernel)
    return [str(step_answer(kernel, step_in(words)))]


def told_lines(kernel, words):
    """What the words of a line tell, an error of the kernel by its name."""
    try:
        return command_lines(kernel, words)
    except NoProcess:
        return ["error NoProcess"]
    except NoPlace:
        return ["error NoPlace"]
    except NoGroup:
        return ["error NoGroup"]
    except NoSnapshot:
        return ["error NoSnapshot"]
    except NoTicket:
        return ["error NoTicket"]
    except TooMany:
        return ["error TooMany"]
    except Nothing:
        return ["error Nothing"]


def first_numbers(index, words):
    """The frames and slots that the first line of a desk's text shows."""
    try:
        frames, slots = pair_row(words[1:])
    except NoCommand:
        raise NoText(index) from None
    if words[0] != "room" or frames < 2:
        raise NoText(index)
    return (frames, slots)


class Desk:
    """A kernel, and the line with which it began."""

    def __init__(self, text):
        if not isinstance(text, str):
            raise Wrong(0)
        rows = rows_of(text)
        if rows == []:
            raise NoText(len(text.split("\n")))
        frames, slots = first_numbers(rows[0][0], rows[0][1])
        self._first = f"room {frames} {slots}"
        self._kernel = Kernel(frames, slots)
        for step in steps_in(rows[1:]):
            self._pass_over(step)

    def execute(self, line):
        """Does what a line tells; returns the lines that answer it."""
        if not isinstance(line, str) or "\n" in line:
            raise Wrong(0)
        try:
            return told_lines(self._kernel, words_of(line))
        except NoCommand:
            raise NoCommand(line) from None

    def kernel(self):
        """A twin of the kernel."""
        return self._kernel.twin()

    def text(self):
        """The text of a desk that comes to an equal kernel."""
        return "\n".join([self._first] + [deed_line(row[0]) for row in self._kernel.log()])

    def _pass_over(self, step):
        """Does a step, whatever is answered to it."""
        try:
            step_answer(self._kernel, step)
        except SwornError:
            pass
