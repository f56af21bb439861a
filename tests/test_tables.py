"""[30]: tables in levels."""

import random
import unittest

import samples
import slow
from pagesworn.tables import (deeper, depth_for, entries_of, entry_at, is_table, nodes_many, steps_to, table_of, with_entry)

ZERO = ("zero", 0, False)


def random_entry(rng):
    return rng.choice([ZERO, ("frame", rng.randint(0, 60), True), ("frame", rng.randint(0, 60), False), ("slot", rng.randint(0, 60), False)])


def random_entries(rng, depth):
    """A dict from pages of a table of this depth, in any order."""
    room = 4 ** depth
    near = rng.randrange(room)
    pages = [rng.randrange(room) for _ in range(rng.choice((0, 1, 3, 8, 30)))] + [min(room - 1, near + rng.randint(0, 9)) for _ in range(4)]
    rng.shuffle(pages)
    return {page: random_entry(rng) for page in pages[:rng.choice((0, 1, 2, 50))]}


def cases(seed, many):
    rng = random.Random(seed)
    for at in range(many):
        depth = at % 9 + 1
        yield rng, depth, random_entries(rng, depth)


class IsTable(unittest.TestCase):
    def test_tables_of_all_depths(self):
        for _, depth, entries in cases(140, 200):
            table = table_of(depth, entries)
            self.assertIs(is_table(table), True)
            self.assertIs(slow.table(table), True)
        for depth in (0, -1, 10, 11, True, False, None, "1", 10 ** 39, (1,)):
            self.assertIs(is_table((depth, None)), False)
            self.assertIs(is_table((depth, (ZERO, None, None, None))), False)
        for depth in range(1, 10):
            self.assertIs(is_table((depth, None)), True)

    def test_entries(self):
        told = {("frame", 0, True): True, ("frame", 7, False): True, ("frame", 10 ** 39, True): True, ("slot", 0, False): True,
                ("slot", 3, True): False, ("zero", 0, False): True, ("zero", 1, False): False, ("zero", 0, True): False,
                ("frame", -1, True): False, ("frames", 1, True): False, ("frame", 1): False, ("frame", 1, True, True): False,
                ("frame", True, True): False, ("frame", 0, None): False, ("zero", None, False): False, ("", 0, False): False}
        for entry, truth in told.items():
            for node in ((entry, None, None, None), (ZERO, ZERO, None, entry)):
                self.assertIs(is_table((1, node)), truth, entry)
                self.assertIs(slow.table((1, node)), truth, entry)
        for entry in (("frame", 1, 1), ("frame", 1, 0), ("slot", 1, 0), ("zero", False, False), ("zero", 0, 0), ["frame", 1, True]):
            self.assertIs(is_table((1, (None, entry, None, None))), False, entry)

    def test_changed_ones(self):
        small = [(1, (None, ZERO, ("frame", 1, True), None)), (2, (None, (("slot", 1, False), None, None, None), None, (ZERO, None, None, ZERO))),
                 table_of(3, {0: ZERO, 63: ("frame", 0, False)}), (2, None)]
        empty = (None, None, None, None)
        for table in small:
            things = samples.changed(table) + [samples.exchanged(table, path, empty) for path in samples.paths(table)]
            answers = samples.agreed(self, is_table, slow.table, (), things)
            self.assertIn(True, answers)
            self.assertIn(False, answers)
        self.assertIs(is_table((1, empty)), False)
        self.assertIs(is_table((2, (empty, (ZERO, None, None, None), None, None))), False)

    def test_a_node_of_another_height(self):
        table = table_of(4, {5: ZERO, 200: ("slot", 1, False)})
        for depth in (1, 2, 3, 5, 6, 9):
            self.assertIs(is_table((depth, table[1])), False)
        self.assertIs(is_table((2, ((ZERO, None, None, None), ZERO, None, None))), False)
        self.assertIs(is_table((1, (ZERO, None, None, (ZERO, None, None, None)))), False)

    def test_any_values(self):
        answers = samples.agreed(self, is_table, slow.table, (), samples.odd_values())
        self.assertNotIn(True, answers)
        deep = samples.nested((ZERO, None, None, None), lambda value: (value, None, None, None))
        for depth in range(1, 10):
            self.assertIs(is_table((depth, deep)), False)


class Depths(unittest.TestCase):
    def test_least_depths(self):
        told = {0: 1, 1: 1, 3: 1, 4: 1, 5: 2, 15: 2, 16: 2, 17: 3, 64: 3, 65: 4, 4 ** 9: 9, 4 ** 9 + 1: 10, 4 ** 60: 60, 4 ** 60 + 1: 61,
                10 ** 39: 65}
        for many, depth in told.items():
            self.assertEqual(depth_for(many), depth, many)
        for many in range(300):
            self.assertEqual(depth_for(many), min(depth for depth in range(1, 9) if 4 ** depth >= many))


class Entries(unittest.TestCase):
    def test_there_and_back(self):
        for rng, depth, entries in cases(141, 400):
            given = dict(entries)
            table = table_of(depth, entries)
            self.assertEqual(list(entries.items()), list(given.items()))
            found = entries_of(table)
            self.assertEqual(found, entries)
            self.assertEqual(list(found), sorted(entries))
            other = list(entries)
            rng.shuffle(other)
            self.assertEqual(table_of(depth, {page: entries[page] for page in other}), table)
            self.assertEqual(table[0], depth)
            found.clear()
            self.assertEqual(entries_of(table), entries)

    def test_a_table_by_hand(self):
        slot, frame = ("slot", 2, False), ("frame", 0, True)
        self.assertEqual(table_of(1, {3: slot, 0: frame}), (1, (frame, None, None, slot)))
        self.assertEqual(table_of(2, {3: slot, 8: frame}), (2, ((None, None, None, slot), None, (frame, None, None, None), None)))
        self.assertEqual(table_of(9, {}), (9, None))
        leaf = (None, None, ZERO, None)
        self.assertEqual(table_of(3, {2 + 4 * 3 + 16 * 1: ZERO}), (3, (None, (None, None, None, leaf), None, None)))

    def test_entries_steps_and_nodes(self):
        for rng, depth, entries in cases(142, 300):
            table = table_of(depth, entries)
            pages = list(entries) + [page + more for page in entries for more in (1, 4, 16)] + [0, 4 ** depth - 1, rng.randrange(4 ** depth)]
            for page in pages:
                way = slow.way(table, page)
                told = entries.get(page) if page < 4 ** depth else None
                self.assertEqual(entry_at(table, page), told)
                self.assertEqual(steps_to(table, page), min(len(way), depth))
                self.assertEqual(len(way) > depth, told is not None)
            for page in (4 ** depth, 4 ** depth + 1, 4 ** (depth + 1), 10 ** 39):
                self.assertEqual([entry_at(table, page), steps_to(table, page)], [None, 0])
            stems = {(at, tuple(slow.digits(page, depth)[:at])) for page in entries for at in range(depth)}
            self.assertEqual(nodes_many(table), len(stems))
        for depth in range(1, 10):
            self.assertEqual([steps_to((depth, None), page) for page in (0, 1, 5, 4 ** depth)], [0] * 4)
            self.assertEqual([entry_at((depth, None), 0), nodes_many((depth, None)), entries_of((depth, None))], [None, 0, {}])
        self.assertEqual([steps_to(table_of(9, {0: ZERO}), page) for page in (0, 1, 4, 16, 4 ** 8)], [9, 9, 8, 7, 1])

    def test_put_in_and_taken_out(self):
        for rng, depth, entries in cases(143, 300):
            table = table_of(depth, entries)
            for _ in range(5):
                page, entry = rng.choice(list(entries) + [rng.randrange(4 ** depth)]), random_entry(rng)
                wide = with_entry(table, page, entry)
                self.assertEqual(wide, table_of(depth, {**entries, page: entry}))
                self.assertEqual(with_entry(wide, page, entries.get(page)), table)
                bare = with_entry(table, page, None)
                self.assertEqual(bare, table_of(depth, {at: entries[at] for at in entries if at != page}))
                self.assertTrue(slow.table(wide) and slow.table(bare))
                if page in entries:
                    self.assertEqual(with_entry(bare, page, entries[page]), table)
                self.assertEqual(entries_of(table), entries)
        self.assertEqual(with_entry(table_of(5, {77: ZERO}), 77, None), (5, None))

    def test_deeper(self):
        for _, depth, entries in cases(144, 200):
            if depth < 9:
                table = table_of(depth, entries)
                self.assertEqual(deeper(table), table_of(depth + 1, entries))
                self.assertEqual(entries_of(deeper(table)), entries)
                self.assertEqual(nodes_many(deeper(table)), nodes_many(table) + (1 if entries else 0))

    def test_a_great_table(self):
        rng = random.Random(145)
        entries = {page: random_entry(rng) for page in rng.sample(range(4 ** 9), 2000)}
        with samples.moments(self):
            table = table_of(9, entries)
            self.assertEqual(entries_of(table), entries)
            self.assertIs(is_table(table), True)
            for page in list(entries)[:20]:
                self.assertEqual(with_entry(with_entry(table, page, None), page, entries[page]), table)
