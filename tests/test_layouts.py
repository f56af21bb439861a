"""[31]: layouts and near-tables."""

import random
import unittest

import samples
import slow
from pagesworn.errors import NoProcess
from pagesworn.forms import is_house, places_of
from pagesworn.layouts import first_layout, is_layout, lies_at, meaning, near_found, near_swept, near_with, table_in
from pagesworn.tables import entries_of, table_of
from pagesworn.wishes import behind_wish, first_house

# Page 1 of process 2 is in zeros, its page 5 is gone; cell 3 is open at (0, 0), 5 in common, 4 shared, 6 read.
PROCESSES = ((0, 0, 4, ()), (2, 0, 17, ()), (5, 0, 0, ()))
CELLS = ((3, "own", ((0, 0),), ()), (4, "own", ((0, 1), (2, 0)), ()), (5, "common", ((0, 2), (2, 2)), ()),
         (6, "own", ((2, 3),), ((0, 0),)), (7, "own", (), ((0, 1),)), (8, "own", ((2, 16),), ()))
HOUSE = (4, 5, ((None, None),), (6, 1), PROCESSES, ((0, 2, ()),), CELLS, ((2, 1),))
LAYOUT = ((CELLS[2], None, CELLS[0], CELLS[3]), (None, CELLS[1], CELLS[5], None, CELLS[4]))


def fitting_house(rng):
    """A house with so many frames and slots that its cells have room, just so or with a few more, and a layout of it."""
    house = samples.random_house(rng, 4, 5, 2, 8)
    many = len(house[6]) + rng.choice((0, 1, 1, 2, 5))
    frames = rng.randint(2, max(2, many))
    house = (frames, max(0, many - frames)) + house[2:]
    return house, drawn_layout(rng, house)


def drawn_layout(rng, house):
    items = list(house[6]) + [None] * (house[0] + house[1] - len(house[6]))
    rng.shuffle(items)
    return tuple(items[:house[0]]), tuple(items[house[0]:])


def full_house(rng):
    """A house with 60 frames and 60 slots, as great as the bounds allow."""
    return (60, 60) + samples.tight_house(rng)[2:]


def drawn_near(rng, house, many):
    """A near-table with any frames, of places that are there or not."""
    places = list(places_of(house)) + [(9, 9), (0, 99)]
    rows = {rng.choice(places): (rng.randint(0, house[0] + 1), rng.random() < 0.6) for _ in range(many)}
    return tuple(place + row for place, row in rows.items())


class IsLayout(unittest.TestCase):
    def test_layouts(self):
        rng = random.Random(150)
        self.assertTrue(is_house(HOUSE))
        self.assertIs(is_layout(HOUSE, LAYOUT), True)
        for house, layout in [fitting_house(rng) for _ in range(200)] + [(house, drawn_layout(rng, house)) for house in [full_house(rng)]]:
            self.assertIs(is_layout(house, layout), True)
            self.assertIs(slow.layout(house, layout), True)

    def test_a_cell_out_twice_exchanged_or_another_one(self):
        rng = random.Random(151)
        for house, layout in [(HOUSE, LAYOUT)] + [fitting_house(rng) for _ in range(100)]:
            items = list(layout[0] + layout[1])
            for at, item in enumerate(items):
                others = [None, (99, "own", ((9, 9),), ())] + items
                if item is not None:
                    others += [(item[0] + 1,) + item[1:], list(item), item[:3], item[:2] + (list(item[2]), item[3])]
                things = [items[:at] + [other] + items[at + 1:] for other in others]
                things = [(tuple(thing[:house[0]]), tuple(thing[house[0]:])) for thing in things]
                samples.agreed(self, is_layout, slow.layout, (house,), things)

    def test_items_more_or_fewer_and_lists(self):
        frames, slots = LAYOUT
        wrong = [(frames + (None,), slots), (frames, slots + (None,)), (frames[:-1], slots), (frames, slots[1:]), (list(frames), slots),
                 (frames, list(slots)), [frames, slots], (frames, slots, ()), (frames + slots[:1], slots[1:]), (frames,), (slots, frames)]
        for thing in wrong:
            self.assertIs(is_layout(HOUSE, thing), False)

    def test_changed_ones(self):
        small = behind_wish(behind_wish(first_house(2, 2), ("begin", 0, 1, ())), ("common", (0,), 1))
        small = (small[:6] + (small[6] + ((1, "own", ((0, 0),), ()),), ()))
        self.assertTrue(is_house(small))
        things = samples.changed((small[6], (None, None))) + samples.odd_values()
        self.assertIn(True, samples.agreed(self, is_layout, slow.layout, (small,), things))
        self.assertIs(is_layout(small, (((0,) + small[6][0][1:], (True,) + small[6][1][1:]), (None, None))), False)
        self.assertIs(is_layout(small, (((False,) + small[6][0][1:], small[6][1]), (None, None))), False)
        self.assertIs(is_layout(small, (((0, "common", ((False, True),), ()), small[6][1]), (None, None))), False)

    def test_a_house_without_cells(self):
        samples.agreed(self, is_layout, slow.layout, (first_house(2, 0),), samples.odd_values() + [((None, None), ()), ((None,), ()), ((), ())])
        self.assertIs(is_layout(first_house(2, 0), ((None, None), ())), True)


class FirstLayout(unittest.TestCase):
    def test_in_order(self):
        self.assertEqual(first_layout(HOUSE), (CELLS[:4], CELLS[4:] + (None, None, None)))
        self.assertEqual(first_layout((6, 0) + HOUSE[2:]), (CELLS, ()))
        self.assertEqual(first_layout((9, 1) + HOUSE[2:]), (CELLS + (None,) * 3, (None,)))
        self.assertEqual(first_layout((2, 4) + HOUSE[2:]), (CELLS[:2], CELLS[2:]))
        self.assertEqual(first_layout(first_house(3, 1)), ((None,) * 3, (None,)))
        rng = random.Random(152)
        for house in [fitting_house(rng)[0] for _ in range(200)] + [full_house(rng)]:
            layout = first_layout(house)
            self.assertIs(is_layout(house, layout), True)
            items = layout[0] + layout[1]
            self.assertEqual(items[:len(house[6])], house[6])


class Lying(unittest.TestCase):
    def test_where_places_lie(self):
        told = {(0, 0): ("frame", 2), (0, 1): ("slot", 1), (2, 0): ("slot", 1), (0, 2): ("frame", 0), (2, 2): ("frame", 0), (2, 3): ("frame", 3),
                (2, 16): ("slot", 2), (2, 1): None, (2, 5): None, (0, 3): None, (7, 0): None}
        for place, answer in told.items():
            self.assertEqual(lies_at(LAYOUT, place), answer)
        rng = random.Random(153)
        for house, layout in [fitting_house(rng) for _ in range(150)]:
            places = places_of(house)
            for process in range(6):
                for page in range(7):
                    index = places.get((process, page))
                    told = lies_at(layout, (process, page))
                    if index is None:
                        self.assertIsNone(told)
                    else:
                        self.assertEqual(layout[("frame", "slot").index(told[0])][told[1]], house[6][index])

    def test_meaning(self):
        self.assertEqual(meaning(LAYOUT), {(0, 0): 3, (0, 1): 4, (0, 2): 5, (2, 0): 4, (2, 2): 5, (2, 3): 6, (2, 16): 8})
        rng = random.Random(154)
        for house, layout in [fitting_house(rng) for _ in range(150)]:
            told = meaning(layout)
            self.assertEqual(list(told), sorted(told))
            self.assertEqual(told, {place: house[6][index][0] for place, index in places_of(house).items() if index is not None})
            self.assertEqual(meaning(drawn_layout(rng, house)), told)
            told.clear()
            self.assertEqual(meaning(layout) == {}, all(index is None for index in places_of(house).values()))


class Tables(unittest.TestCase):
    def told(self, house, layout, process):
        """The entries of a process, place by place."""
        found = {}
        for (number, page), index in places_of(house).items():
            if number == process:
                items = layout[0] + layout[1]
                at = None if index is None else items.index(house[6][index])
                if at is None:
                    found[page] = ("zero", 0, False)
                elif at < house[0]:
                    found[page] = ("frame", at, slow.is_open(house[6][index], (number, page)))
                else:
                    found[page] = ("slot", at - house[0], False)
        return found

    def test_a_house(self):
        self.assertEqual(table_in(HOUSE, LAYOUT, 0), (1, (("frame", 2, True), ("slot", 1, False), ("frame", 0, True), None)))
        table = table_in(HOUSE, LAYOUT, 2)
        self.assertEqual(table[0], 3)
        self.assertEqual(entries_of(table), {0: ("slot", 1, False), 1: ("zero", 0, False), 2: ("frame", 0, True), 3: ("frame", 3, False),
                                             16: ("slot", 2, False)})
        self.assertEqual(table_in(HOUSE, LAYOUT, 5), (1, None))

    def test_drawn_ones(self):
        rng = random.Random(155)
        seen = set()
        for house, layout in [fitting_house(rng) for _ in range(200)] + [(house, drawn_layout(rng, house)) for house in [full_house(rng)]]:
            for row in house[4]:
                told = self.told(house, layout, row[0])
                depth = min(depth for depth in range(1, 9) if 4 ** depth >= row[2])
                self.assertEqual(table_in(house, layout, row[0]), table_of(depth, told))
                seen |= {(entry[0], entry[2]) for entry in told.values()}
        self.assertEqual(seen, {("zero", False), ("slot", False), ("frame", True), ("frame", False)})

    def test_no_process(self):
        for process in (1, 3, 4, 6, 10 ** 39):
            with self.assertRaises(NoProcess) as caught:
                table_in(HOUSE, LAYOUT, process)
            self.assertEqual(vars(caught.exception), {"process": process})


class Near(unittest.TestCase):
    NEAR = ((0, 0, 2, True), (2, 16, 1, False), (0, 2, 0, True))

    def test_found(self):
        self.assertEqual([near_found(self.NEAR, place) for place in ((0, 0), (2, 16), (0, 2), (2, 0), (0, 16))],
                         [(2, True), (1, False), (0, True), None, None])
        self.assertIsNone(near_found((), (0, 0)))

    def test_with(self):
        entry = (1, 1, 5, False)
        told = [near_with(self.NEAR, most, entry) for most in range(6)]
        self.assertEqual(told, [(), (entry,), (entry,) + self.NEAR[:1], (entry,) + self.NEAR[:2], (entry,) + self.NEAR, (entry,) + self.NEAR])
        again = (2, 16, 3, True)
        told = [near_with(self.NEAR, most, again) for most in range(5)]
        kept = (again, self.NEAR[0], self.NEAR[2])
        self.assertEqual(told, [(), kept[:1], kept[:2], kept, kept])
        self.assertEqual([near_with((), 8, entry), near_with((), 0, entry), near_with(self.NEAR[:1], 8, self.NEAR[0])], [(entry,), (), self.NEAR[:1]])

    def test_with_drawn_ones(self):
        rng = random.Random(156)
        for house, _ in [fitting_house(rng) for _ in range(100)]:
            near = drawn_near(rng, house, rng.randint(0, 8))
            for most in range(10):
                entry = drawn_near(rng, house, 1)[0]
                told = near_with(near, most, entry)
                self.assertEqual(told, tuple([entry] + [row for row in near if row[:2] != entry[:2]])[:most])
                self.assertEqual(near_found(told, entry[:2]), entry[2:] if most else None)

    def test_swept(self):
        near = ((0, 0, 2, True), (0, 0, 2, False), (2, 2, 0, True), (2, 2, 0, False), (2, 3, 3, True), (2, 3, 3, False), (0, 1, 3, True),
                (2, 1, 0, True), (0, 0, 1, True), (0, 0, 4, True), (0, 0, 9, False), (2, 5, 0, False), (9, 9, 2, True))
        for row in near:
            told = {(0, 0, 2, True): True, (0, 0, 2, False): False, (2, 2, 0, True): True, (2, 2, 0, False): False, (2, 3, 3, True): False,
                    (2, 3, 3, False): False}.get(row)
            self.assertEqual(near_swept((row,), LAYOUT), () if told is None else (row[:3] + (told,),), row)
        self.assertEqual(near_swept((near[4], near[8], near[0]), LAYOUT), ((2, 3, 3, False), (0, 0, 2, True)))
        self.assertEqual(near_swept((), LAYOUT), ())

    def test_swept_drawn_ones(self):
        rng = random.Random(157)
        kept = 0
        for house, layout in [fitting_house(rng) for _ in range(300)] + [(house, drawn_layout(rng, house)) for house in [full_house(rng)]]:
            near = drawn_near(rng, house, 8)
            near += tuple((at[0], at[1], lies_at(layout, at)[1], rng.random() < 0.5) for at in meaning(layout)
                          if lies_at(layout, at)[0] == "frame" and near_found(near, at) is None)
            told = []
            for process, page, frame, was_open in near:
                cell = layout[0][frame] if frame < house[0] else None
                if cell is not None and (process, page) in cell[2]:
                    told.append((process, page, frame, was_open and slow.is_open(cell, (process, page))))
            self.assertEqual(near_swept(near, layout), tuple(told))
            self.assertEqual(near_swept(tuple(told), layout), tuple(told))
            kept += len(told)
        self.assertGreater(kept, 300)


class GreatHouses(unittest.TestCase):
    def test_each_call_ends_within_moments(self):
        rng = random.Random(158)
        house = full_house(rng)
        for layout in (first_layout(house), drawn_layout(rng, house)):
            with samples.moments(self):
                self.assertIs(is_layout(house, layout), True)
                tables = [table_in(house, layout, row[0]) for row in house[4]]
                near = drawn_near(rng, house, 8)
                near_swept(near_with(near, 8, near[-1]), layout)
                where = [lies_at(layout, place) for place in meaning(layout)]
            self.assertEqual([len(tables), None in where], [len(house[4]), False])
