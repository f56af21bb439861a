"""The machine of [32] once more, step by step as DOC.md tells it, with cells that are one and the same wherever they lie."""

import slow
from pagesworn.inside import is_kept


def content_first(cell):
    return (cell.content, cell.sort, tuple(sorted(cell.places)), tuple(sorted(cell.readers)))


class Machine:
    def __init__(self, house, near):
        self.told = slow.House(house)
        self.most = near
        ordered = sorted(self.told.cells, key=content_first)
        self.frames = (ordered + [None] * house[0])[:house[0]]
        self.slots = (ordered[house[0]:] + [None] * house[1])[:house[1]]
        self.near = []
        self.marks = [False] * house[0]
        self.hand = 0
        self.hits = 0
        self.seen = set()

    def state(self):
        """All that the methods of a Machine tell of it."""
        parts = [tuple(cell and content_first(cell) for cell in part) for part in (self.frames, self.slots)]
        near = tuple(place + row for place, row in self.near)
        return self.told.tuple(), tuple(parts), near, tuple(self.marks), self.hand, self.hits

    def free(self, items):
        return [index for index, item in enumerate(items) if item is None]

    def clear(self, held):
        while True:
            frame = self.hand
            self.hand = 0 if frame == len(self.frames) - 1 else frame + 1
            if frame == held:
                self.seen.add("held")
                continue
            if self.marks[frame]:
                self.seen.add("mark")
                self.marks[frame] = False
                continue
            return frame

    def fetch(self, cell):
        """The frame of a cell, to which it comes if it lies in a slot."""
        if cell not in self.frames:
            slot = self.slots.index(cell)
            frames = self.free(self.frames)
            self.seen.add("fetch to a free frame" if frames else "exchange")
            frame = frames[0] if frames else self.clear(None)
            self.frames[frame], self.slots[slot] = cell, self.frames[frame]
        frame = self.frames.index(cell)
        self.marks[frame] = True
        return frame

    def is_open(self, place):
        cell = self.told.cell(place)
        return cell.sort == "common" or (cell.places == {place} and not cell.readers)

    def sweep(self):
        """What near_swept of [31] tells."""
        kept = []
        for place, (frame, was_open) in self.near:
            if frame < len(self.frames) and self.frames[frame] is not None and place in self.frames[frame].places:
                kept.append((place, (frame, was_open if self.is_open(place) else False)))
        self.near = kept

    def note(self, place, frame):
        self.sweep()
        others = [row for row in self.near if row[0] != place]
        self.near = ([(place, (frame, self.is_open(place)))] + others)[:self.most]

    def go(self):
        """Cells that are no longer there leave their frames and slots free."""
        for items in (self.frames, self.slots):
            for index, cell in enumerate(items):
                if cell is not None and not cell.places and not cell.readers:
                    items[index] = None
        self.marks = [mark and cell is not None for mark, cell in zip(self.marks, self.frames)]

    def put(self, cell):
        frames = self.free(self.frames)
        if frames:
            self.frames[frames[0]] = cell
            self.marks[frames[0]] = False
        else:
            self.slots[self.free(self.slots)[0]] = cell

    def read(self, process, page):
        place = (process, page)
        cell = self.told.cell(place)
        if cell is None:
            return 0
        if place in dict(self.near):
            self.hits += 1
        self.note(place, self.fetch(cell))
        return cell.content

    def do(self, deed):
        place = deed[1:3]
        cell = self.told.cell(place) if deed[0] == "write" else None
        was_open = cell is not None and self.is_open(place)
        ahead = list(self.told.cells)
        answer = self.told.do(deed)
        if answer == "place":
            assert was_open
            if dict(self.near).get(place, (0, False))[1]:
                self.hits += 1
            self.note(place, self.fetch(cell))
        elif answer == "copy":
            held = None if cell is None else self.fetch(cell)
            new = [other for other in self.told.cells if not any(other is one for one in ahead)][0]
            frames = self.free(self.frames)
            self.seen.add(("copy", cell is None, bool(frames)))
            frame = frames[0] if frames else self.clear(held)
            if not frames:
                self.slots[self.free(self.slots)[0]] = self.frames[frame]
            self.frames[frame] = new
            self.marks[frame] = True
            self.note(place, frame)
        elif answer == "done":
            self.go()
            self.sweep()
        return answer

    def wish(self, wish):
        house = self.told.tuple()
        if not is_kept(slow.behind(house, [wish])):
            return "refused"
        ahead = list(self.told.cells)
        self.told.do(wish)
        self.go()
        beyond = [cell for cell in self.frames[self.told.frames:] + self.slots[self.told.slots:] if cell is not None]
        self.frames = self.frames[:self.told.frames] + [None] * (self.told.frames - len(self.frames))
        self.marks = self.marks[:self.told.frames] + [False] * (self.told.frames - len(self.marks))
        self.slots = self.slots[:self.told.slots] + [None] * (self.told.slots - len(self.slots))
        self.hand = self.hand if self.hand < len(self.frames) else 0
        new = [cell for cell in self.told.cells if not any(cell is one for one in ahead)]
        self.seen |= {("beyond", wish[0], bool(self.free(self.frames)))} if beyond else set()
        self.seen |= {("new", wish[0], len(new) > 1)} if new else set()
        for cell in beyond + sorted(new, key=content_first):
            self.put(cell)
        self.sweep()
        return "granted"

    def put_out(self, frame):
        if self.frames[frame] is None or not self.free(self.slots):
            return False
        self.slots[self.free(self.slots)[0]] = self.frames[frame]
        self.frames[frame], self.marks[frame] = None, False
        self.sweep()
        return True

    def bring(self, slot):
        if self.slots[slot] is None or not self.free(self.frames):
            return False
        frame = self.free(self.frames)[0]
        self.frames[frame], self.marks[frame], self.slots[slot] = self.slots[slot], False, None
        self.sweep()
        return True

    def turn(self, frame):
        self.hand = frame
