"""[12], with the definitions of [2]: forms."""

import random
import unittest

import samples
import slow
from pagesworn import forms
from pagesworn.errors import NoGroup, NoProcess, NoSnapshot, Wrong

PROCESSES = ((0, 0, 3, (((0, 1), 1), ((1,), 0))), (2, 1, 2, ()))
CELLS = ((-3, "common", ((0, 2),), ()), (5, "own", (), ((3, 2),)), (5, "own", ((0, 0), (2, 0)), ((1, 0),)))
HOUSE = (4, 2, ((None, None), (0, 3), (1, None)), (3, 4), PROCESSES, ((1, 2, (1,)), (3, 4, (0, 3))), CELLS, ((0, 1),))

DEEDS = (("write", 0, 1, -4), ("drop", 0, 1), ("exit", 2), ("lessen", 0, (0, 3), 2), ("forget", 1))
WISHES = (
    ("begin", 0, 0, (((0,), 1),)), ("more", 0, 1), ("raise", 3, ()), ("fork", 0, 1, (((0, 1), 1), ((1,), 0))),
    ("common", (0, 2), 1), ("send", 0, 1, 0), ("snapshot", 2), ("back", 0, 1), ("group", 0, None), ("group", 2, 0),
    ("move", 0, 0), ("room", 1, None), ("room", 1, 3), ("frames", 2), ("slots", 0),
)
CHECKS = {
    "is_integer": slow.integer, "is_lot": lambda thing: slow.lot(thing, slow.zero_on), "is_place": slow.pair,
    "is_ticket": slow.ticket, "is_forest": slow.forest, "is_cell": slow.cell, "is_house": slow.house,
    "is_deed": slow.deed, "is_wish": slow.wish,
}


class IsForms(unittest.TestCase):
    def holds(self, name, things):
        """The function answers True or False, and what DOC.md says, for each of the things."""
        function = getattr(forms, name)
        answers = []
        for thing in things:
            answer = function(thing)
            answers.append(answer)
            if answer is not CHECKS[name](thing):
                self.fail(f"{name} of {thing!r} is {answer!r}")
        return answers

    def test_odd_values(self):
        for name in CHECKS:
            self.holds(name, samples.odd_values())

    def test_integers(self):
        self.assertEqual([forms.is_integer(thing) for thing in (0, -1, 10 ** 39, True, False, None, "1", (1,))],
                         [True, True, True, False, False, False, False, False])

    def test_lots(self):
        self.assertTrue(all(self.holds("is_lot", [(), (0,), (0, 3), tuple(range(900))])))
        self.assertFalse(any(self.holds("is_lot", [(3, 0), (0, 0), (-1,), (True,), (0, True), [], [0], (None,), ("0",), 0])))

    def test_places(self):
        self.assertTrue(all(self.holds("is_place", [(0, 0), (7, 10 ** 30)])))
        self.assertFalse(any(self.holds("is_place", [(0,), (0, 0, 0), [0, 0], (0, -1), (-1, 0), (True, 0), (0, False), ()])))

    def test_forests(self):
        good = [(), (((0,), 0),), (((0,), 2), ((0, 1), 1)), (((0,), 2), ((0, 1), 1), ((2,), 2), ((2, 5, 9), 0)),
                (((0, 1, 2, 3), 1), ((0, 2), 1), ((1,), 4), ((1, 3), 1))]
        self.assertTrue(all(self.holds("is_forest", good)))
        bad = [(((0, 1), 1), ((1, 2), 1)), (((0, 1), 1), ((0,), 2)), (((0,), 1), ((0,), 2)), (((0,), 1), ((0,), 1)),
               (((), 1),), (((0,), -1),), (((0,), True),), (((True,), 1),), (([0], 1),), ([(0,), 1],), [((0,), 1)],
               (((0, 1, 2), 1), ((1, 2, 3), 1)), (((0, 1, 2, 3), 1), ((0, 2), 1), ((1, 2), 1)), (((0, 1), 1), ((0, 2), 3), ((1, 2), 1))]
        self.assertFalse(any(self.holds("is_forest", bad)))

    def test_all_forests_over_three_pages(self):
        lots = [(0,), (0, 1), (0, 1, 2), (0, 2), (1,), (1, 2), (2,)]
        for mask in range(2 ** len(lots)):
            tickets = tuple((lot, index) for index, lot in enumerate(lots) if mask >> index & 1)
            self.holds("is_forest", [tickets, tickets[::-1]])

    def test_random_tickets(self):
        rng = random.Random(12)
        for _ in range(3000):
            lots = {tuple(sorted(rng.sample(range(6), rng.randint(1, 6)))) for _ in range(rng.randint(1, 4))}
            self.holds("is_forest", [tuple((lot, 1) for lot in sorted(lots))])

    def test_changed_tickets_and_cells(self):
        for name, value in (("is_ticket", ((0, 3), 2)), ("is_forest", PROCESSES[0][3]), ("is_cell", CELLS[0]),
                            ("is_cell", CELLS[1]), ("is_cell", CELLS[2]), ("is_place", (3, 4)), ("is_lot", (0, 2, 4))):
            self.assertTrue(getattr(forms, name)(value))
            answers = self.holds(name, samples.changed(value))
            self.assertIn(False, answers)

    def test_cells(self):
        good = [(7, "common", ((1, 0),), ()), (-7, "own", (), ((0, 0),)), (0, "own", ((0, 0), (0, 1)), ((0, 0), (4, 2)))]
        self.assertTrue(all(self.holds("is_cell", good)))
        bad = [(7, "common", ((1, 0),), ((0, 0),)), (7, "own", (), ()), (7, "common", (), ()), (7, "common", (), ((0, 0),)),
               (True, "own", ((0, 0),), ()), (7, "other", ((0, 0),), ()), (7, None, ((0, 0),), ()), (7, "own", [(0, 0)], ()),
               (7, "own", ((0, 1), (0, 0)), ()), (7, "own", ((0, 0), (0, 0)), ()), (7, "own", ((0, 0),)),
               (7, "own", ((0, 0),), (), ()), (7, "own", ((0, 0),), ((1, 0), (0, 0))), (7, "own", ((0, 0),), [])]
        self.assertFalse(any(self.holds("is_cell", bad)))

    def test_changed_houses(self):
        self.assertIs(forms.is_house(HOUSE), True)
        answers = self.holds("is_house", samples.changed(HOUSE))
        self.assertGreater(answers.count(True), 50)
        self.assertGreater(answers.count(False), 3000)

    def test_houses_that_are_none(self):
        other = {
            "a place twice": HOUSE[:7] + (((0, 0),),), "a page beyond many": HOUSE[:7] + (((0, 3),),),
            "a place of no process": HOUSE[:7] + (((1, 0),),), "a number beyond born": HOUSE[:3] + ((2, 4),) + HOUSE[4:],
            "a snapshot beyond born": HOUSE[:3] + ((3, 3),) + HOUSE[4:],
            "zeros beyond many": HOUSE[:5] + (((1, 2, (2,)), (3, 4, (0, 3))),) + HOUSE[6:],
            "two snapshots of one number": HOUSE[:5] + (((1, 2, (1,)), (1, 4, (3,)), (3, 4, (0, 3))),) + HOUSE[6:],
            "a reader in zeros": HOUSE[:5] + (((1, 2, (0,)), (3, 4, (0, 3))),) + HOUSE[6:],
            "a reader of no snapshot": HOUSE[:5] + (HOUSE[5][1:],) + HOUSE[6:],
            "a reader twice": HOUSE[:6] + (((4, "own", ((2, 1),), ((1, 0),)),) + CELLS,) + HOUSE[7:],
            "no groups": HOUSE[:2] + ((),) + HOUSE[3:], "a room of group 0": HOUSE[:2] + (((None, 1),) + HOUSE[2][1:],) + HOUSE[3:],
            "a group above itself": HOUSE[:2] + (((None, None), (1, 3), (1, None)),) + HOUSE[3:],
            "one frame": (1,) + HOUSE[1:], "slots below 0": (4, -1) + HOUSE[2:], "no tuple": list(HOUSE),
            "two processes of one number": HOUSE[:4] + (((0, 0, 3, ()),) + PROCESSES,) + HOUSE[5:],
            "a group too great": HOUSE[:2] + (HOUSE[2][:1],) + HOUSE[3:],
            "cells out of order": HOUSE[:6] + (CELLS[::-1],) + HOUSE[7:],
        }
        for name, thing in other.items():
            with self.subTest(name=name):
                self.assertEqual(self.holds("is_house", [thing]), [False])

    def test_random_and_great_houses(self):
        rng = random.Random(3)
        for _ in range(60):
            house = samples.random_house(rng)
            self.assertIs(forms.is_house(house), True)
            changed = samples.changed(house)
            self.holds("is_house", rng.sample(changed, min(len(changed), 60)))
        great = samples.great_house(rng)
        self.assertIs(forms.is_house(great), True)
        self.assertIs(forms.is_house(great[:7] + (great[7] + ((77, 60),),)), False)
        self.assertIs(forms.is_house(great[:7] + (great[7] + ((77, 59),),)), True)
        self.assertIs(forms.is_forest(samples.great_forest(rng)), True)

    def test_deeds_and_wishes(self):
        self.assertTrue(all(self.holds("is_deed", DEEDS)) and all(self.holds("is_wish", WISHES)))
        self.assertFalse(any(self.holds("is_deed", WISHES)) or any(self.holds("is_wish", DEEDS)))
        for name, things in (("is_deed", DEEDS), ("is_wish", WISHES)):
            for thing in things:
                self.holds(name, samples.changed(thing))
                self.holds(name, [thing[:size] for size in range(len(thing))])

    def test_bounds_of_wishes(self):
        bad = [("more", 0, 0), ("common", (), 1), ("common", (0,), 0), ("common", (1, 0), 1), ("frames", 1), ("slots", -1),
               ("room", 0, 3), ("room", 1, -1), ("group", None, 1), ("begin", 0, -1, ()), ("raise", 0, []), ("send", 0, 1),
               ("read", 0, 0), ("room", True, None), (Wrong(0), 1)]
        self.assertFalse(any(self.holds("is_wish", bad)))
        bad = [("lessen", 0, (), 0), ("lessen", 0, (0,), -1), ("drop", 0, -1), ("forget", 0, 0), ("write", 0, 0, None),
               ("write", 0, 0, True), ("read", 0, 0), ("exit",), (), ["exit", 0]]
        self.assertFalse(any(self.holds("is_deed", bad)))


class Parts(unittest.TestCase):
    def test_places_and_readers(self):
        self.assertEqual(forms.places_of(HOUSE), {(0, 0): 2, (0, 1): None, (0, 2): 0, (2, 0): 2})
        self.assertEqual(forms.readers_of(HOUSE), {(1, 0): 2, (1, 1): None, (3, 0): None, (3, 2): 1, (3, 3): None})

    def test_keys_ascend_and_dicts_are_new(self):
        rng = random.Random(5)
        for house in [HOUSE, samples.great_house(rng)] + [samples.random_house(rng) for _ in range(200)]:
            for function in (forms.places_of, forms.readers_of):
                found = function(house)
                self.assertEqual(list(found), sorted(found))
                again = function(house)
                self.assertIsNot(found, again)
                found.clear()
                self.assertEqual(function(house), again)

    def test_places_and_readers_against_the_cells(self):
        rng = random.Random(6)
        for house in [samples.great_house(rng)] + [samples.random_house(rng) for _ in range(200)]:
            told = slow.House(house)
            places = {(row[0], page) for row in house[4] for page in range(row[2])}
            found = forms.places_of(house)
            self.assertEqual(set(found), {place for place in places if not told.is_gone(place)})
            for place, index in found.items():
                self.assertTrue(place in house[7] if index is None else place in house[6][index][2])
            zeros = {(row[0], page) for row in house[5] for page in row[2]}
            found = forms.readers_of(house)
            self.assertEqual(set(found), zeros | {reader for cell in house[6] for reader in cell[3]})
            for reader, index in found.items():
                self.assertTrue(reader in zeros if index is None else reader in house[6][index][3])

    def test_what_is_there(self):
        self.assertEqual(forms.process_of(HOUSE, 0), (0, 3, (((0, 1), 1), ((1,), 0))))
        self.assertEqual(forms.process_of(HOUSE, 2), (1, 2, ()))
        self.assertEqual([forms.snapshot_of(HOUSE, 1), forms.snapshot_of(HOUSE, 3)], [(2, (1,)), (4, (0, 3))])
        self.assertEqual([forms.group_of(HOUSE, index) for index in range(3)], [(None, None), (0, 3), (1, None)])

    def test_what_is_not_there(self):
        cases = ((forms.process_of, NoProcess, "process", (0, 2)), (forms.snapshot_of, NoSnapshot, "snapshot", (1, 3)),
                 (forms.group_of, NoGroup, "group", (0, 1, 2)))
        for function, error, field, there in cases:
            for value in samples.odd_values() + [3, 4, 5, -2, -3]:
                if type(value) is int and value in there:
                    continue
                with self.assertRaises(error) as caught:
                    function(HOUSE, value)
                self.assertIs(getattr(caught.exception, field), value)

    def test_truths_are_no_numbers(self):
        house = HOUSE[:3] + ((3, 4), ((0, 0, 0, ()), (1, 0, 0, ())), ((0, 0, ()), (1, 0, ())), (), ())
        for value in (True, False):
            with self.assertRaises(NoProcess):
                forms.process_of(house, value)
            with self.assertRaises(NoSnapshot):
                forms.snapshot_of(house, value)
            with self.assertRaises(NoGroup):
                forms.group_of(house, value)
