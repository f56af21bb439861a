"""[16]: wishes."""

import random
import unittest

import samples
import slow
from pagesworn.deeds import behind_deed, behind_row, read, shown
from pagesworn.errors import NoGroup, NoPlace, NoProcess, NoSnapshot, SwornError
from pagesworn.forms import is_house, is_wish, places_of, readers_of
from pagesworn.wishes import behind_wish, first_house

# The house is not kept: it has three cells, and room for two. Page 2 of process 0 is gone.
PROCESSES = ((0, 1, 4, (((0, 1), 9),)), (2, 0, 2, ()))
SNAPSHOTS = ((1, 5, (0, 4)),)
CELLS = ((1, "common", ((0, 3), (2, 0)), ()), (5, "own", ((0, 0),), ((1, 1),)), (6, "own", (), ((1, 3),)))
HOUSE = (2, 0, ((None, None), (0, 1)), (3, 2), PROCESSES, SNAPSHOTS, CELLS, ((0, 1), (2, 1)))


class Wishes(unittest.TestCase):
    def behind(self, *wish):
        """The house behind a wish, in which nothing but the parts that are told may have changed."""
        self.assertTrue(is_wish(wish))
        found = behind_wish(HOUSE, wish)
        self.assertTrue(is_house(found))
        return found

    def same_but(self, found, **parts):
        names = ("frames", "slots", "groups", "born", "processes", "snapshots", "cells", "zeros")
        self.assertEqual(found, tuple(parts.get(name, part) for name, part in zip(names, HOUSE)))

    def test_first_house(self):
        self.assertEqual(first_house(2, 0), (2, 0, ((None, None),), (0, 0), (), (), (), ()))
        self.assertEqual(first_house(10 ** 9 - 1, 7)[:2], (10 ** 9 - 1, 7))
        self.assertTrue(is_house(first_house(2, 0)))

    def test_begin(self):
        forest = (((0, 99), 4),)
        self.same_but(self.behind("begin", 1, 2, forest), born=(4, 2), processes=PROCESSES + ((3, 1, 2, forest),),
                      zeros=((0, 1), (2, 1), (3, 0), (3, 1)))
        self.same_but(self.behind("begin", 0, 0, ()), born=(4, 2), processes=PROCESSES + ((3, 0, 0, ()),))

    def test_more_and_raise(self):
        self.same_but(self.behind("more", 0, 2), processes=((0, 1, 6, PROCESSES[0][3]), PROCESSES[1]),
                      zeros=((0, 1), (0, 4), (0, 5), (2, 1)))
        self.same_but(self.behind("raise", 2, (((1,), 3),)), processes=(PROCESSES[0], (2, 0, 2, (((1,), 3),))))
        self.same_but(self.behind("raise", 0, ()), processes=((0, 1, 4, ()), PROCESSES[1]))

    def test_fork(self):
        forest = (((0,), 1),)
        self.same_but(self.behind("fork", 0, 0, forest), born=(4, 2), processes=PROCESSES + ((3, 0, 4, forest),), cells=(
            (1, "common", ((0, 3), (2, 0), (3, 3)), ()), (5, "own", ((0, 0), (3, 0)), ((1, 1),)), CELLS[2]),
            zeros=((0, 1), (2, 1), (3, 1)))

    def test_common(self):
        self.same_but(self.behind("common", (0, 2), 2), processes=((0, 1, 6, PROCESSES[0][3]), (2, 0, 4, ())), cells=(
            (0, "common", ((0, 4), (2, 2)), ()), (0, "common", ((0, 5), (2, 3)), ())) + CELLS)
        self.same_but(self.behind("common", (2,), 1), processes=(PROCESSES[0], (2, 0, 3, ())),
                      cells=((0, "common", ((2, 2),), ()),) + CELLS)

    def test_send(self):
        self.same_but(self.behind("send", 0, 0, 2), processes=(PROCESSES[0], (2, 0, 3, ())),
                      cells=(CELLS[0], (5, "own", ((0, 0), (2, 2)), ((1, 1),)), CELLS[2]))
        self.same_but(self.behind("send", 0, 1, 2), processes=(PROCESSES[0], (2, 0, 3, ())), zeros=((0, 1), (2, 1), (2, 2)))
        self.same_but(self.behind("send", 2, 0, 0), processes=((0, 1, 5, PROCESSES[0][3]), PROCESSES[1]),
                      cells=((1, "common", ((0, 3), (0, 4), (2, 0)), ()),) + CELLS[1:])
        self.same_but(self.behind("send", 0, 0, 0), processes=((0, 1, 5, PROCESSES[0][3]), PROCESSES[1]),
                      cells=(CELLS[0], (5, "own", ((0, 0), (0, 4)), ((1, 1),)), CELLS[2]))

    def test_snapshot(self):
        self.same_but(self.behind("snapshot", 0), born=(3, 3), snapshots=SNAPSHOTS + ((2, 4, (1,)),), cells=(
            CELLS[0], (1, "own", (), ((2, 3),)), (5, "own", ((0, 0),), ((1, 1), (2, 0))), CELLS[2]))

    def test_snapshot_of_a_common_cell_that_two_pages_show(self):
        house = behind_wish(HOUSE, ("send", 2, 0, 2))
        found = behind_wish(house, ("snapshot", 2))
        self.assertEqual(found[6][1:3], ((1, "own", (), ((2, 0),)), (1, "own", (), ((2, 2),))))
        self.assertEqual(len(found[6]), len(HOUSE[6]) + 2)
        self.assertEqual(found[5][1], (2, 3, (1,)))
        later = behind_deed(found, ("write", 2, 0, 8))[0]
        back = behind_wish(later, ("back", 2, 2))
        self.assertEqual([shown(later, 2), shown(back, 2)], [{0: 8, 1: 0, 2: 8}, {0: 1, 1: 0, 2: 1}])

    def test_back_into_fewer_and_into_more_pages(self):
        self.same_but(self.behind("back", 1, 2), processes=(PROCESSES[0], (2, 0, 5, ())), cells=(
            (1, "common", ((0, 3),), ()), (5, "own", ((0, 0), (2, 1)), ((1, 1),)), (6, "own", ((2, 3),), ((1, 3),))),
            zeros=((0, 1), (2, 0), (2, 4)))
        self.same_but(self.behind("back", 1, 0), processes=((0, 1, 5, PROCESSES[0][3]), PROCESSES[1]), cells=(
            (1, "common", ((2, 0),), ()), (5, "own", ((0, 1),), ((1, 1),)), (6, "own", ((0, 3),), ((1, 3),))),
            zeros=((0, 0), (0, 4), (2, 1)))
        wide = behind_wish(HOUSE, ("more", 2, 9))
        self.assertEqual(behind_wish(wide, ("back", 1, 2))[4][1][2], 11)

    def test_back_again_and_again(self):
        house = behind_wish(HOUSE, ("back", 1, 0))
        self.assertEqual(behind_wish(house, ("back", 1, 0)), house)
        house, answers = behind_row(house, (("write", 0, 1, 77), ("drop", 0, 0)))
        self.assertEqual(answers, ("copy", "done"))
        again = behind_wish(house, ("back", 1, 0))
        self.assertEqual(shown(again, 0), {0: 0, 1: 5, 3: 6, 4: 0})
        self.assertEqual(behind_deed(again, ("forget", 1))[0][6], ((1, "common", ((2, 0),), ()), (5, "own", ((0, 1),), ()),
                                                                   (6, "own", ((0, 3),), ())))

    def test_groups(self):
        self.same_but(self.behind("group", 1, 7), groups=HOUSE[2] + ((1, 7),))
        self.same_but(self.behind("group", 0, None), groups=HOUSE[2] + ((0, None),))
        self.same_but(self.behind("move", 0, 0), processes=((0, 0) + PROCESSES[0][2:], PROCESSES[1]))
        self.same_but(self.behind("room", 1, None), groups=((None, None), (0, None)))
        self.same_but(self.behind("room", 1, 0), groups=((None, None), (0, 0)))

    def test_frames_and_slots(self):
        self.same_but(self.behind("frames", 9), frames=9)
        self.same_but(self.behind("slots", 9), slots=9)

    def test_what_the_document_says_beside(self):
        house = behind_wish(HOUSE, ("snapshot", 0))
        self.assertEqual(set(readers_of(house)) - set(readers_of(HOUSE)), {(2, 0), (2, 1), (2, 3)})
        self.assertEqual([read(house, *place) for place in places_of(HOUSE)], [read(HOUSE, *place) for place in places_of(HOUSE)])


class Errors(unittest.TestCase):
    def raises(self, error, fields, *wish):
        self.assertTrue(is_wish(wish))
        with self.subTest(wish=wish), self.assertRaises(error) as caught:
            behind_wish(HOUSE, wish)
        self.assertEqual(tuple(vars(caught.exception).values()), fields)

    def test_processes(self):
        for wish in (("more", 1, 1), ("raise", 1, ()), ("fork", 1, 9, ()), ("send", 1, 9, 9), ("snapshot", 1), ("back", 9, 1),
                     ("move", 1, 9), ("common", (0, 1, 4), 1), ("send", 0, 9, 1)):
            self.raises(NoProcess, (1,), *wish)
        self.raises(NoProcess, (3,), "common", (3, 4), 1)

    def test_places(self):
        for place in ((0, 2), (0, 4), (2, 2)):
            self.raises(NoPlace, place, "send", *place, 2)

    def test_groups_and_snapshots(self):
        for wish in (("begin", 2, 0, ()), ("fork", 0, 2, ()), ("group", 2, None), ("move", 0, 2), ("room", 2, None)):
            self.raises(NoGroup, (2,), *wish)
        self.raises(NoSnapshot, (0,), "back", 0, 2)
        self.raises(NoSnapshot, (2,), "back", 2, 0)


class Against(unittest.TestCase):
    def test_the_words_of_the_document(self):
        """All wishes, in houses that are kept and that are not, against what [2] says of them."""
        rng = random.Random(17)
        seen = {}
        houses = [samples.random_house(rng) for _ in range(600)] + [samples.great_house(rng) for _ in range(3)]
        for house in houses:
            for _ in range(12):
                step = samples.random_step(rng, house)
                if is_wish(step):
                    behind, name = self.hold(house, step)
                    seen[step[0], name] = True
                    house = behind if len(places_of(behind)) < 150 else house
        self.assertEqual({word for word, name in seen if name == "done"}, set(slow.STEPS) - set(slow.DEEDS))
        for word, name in (("fork", "NoGroup"), ("send", "NoPlace"), ("back", "NoSnapshot"), ("common", "NoProcess")):
            self.assertIn((word, name), seen)

    def hold(self, house, wish):
        told = slow.House(house)
        expected = told.error(wish)
        try:
            behind = behind_wish(house, wish)
        except SwornError as error:
            self.assertEqual(expected, (type(error).__name__, tuple(vars(error).values())))
            return house, expected[0]
        self.assertIsNone(expected)
        told.do(wish)
        self.assertEqual(behind, told.tuple())
        self.assertTrue(is_house(behind))
        self.assertEqual(behind_wish(house, wish), behind)
        if wish[0] not in ("common", "snapshot"):
            self.assertLessEqual(len(behind[6]), len(house[6]))
        return behind, "done"
