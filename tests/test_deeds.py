"""[15]: deeds."""

import random
import unittest

import samples
import slow
from pagesworn.deeds import behind_deed, behind_row, read, shown, write_answer
from pagesworn.errors import NoPlace, NoProcess, NoSnapshot, NoTicket, SwornError
from pagesworn.forms import is_deed, is_house, places_of

# Process 0 has nested tickets, process 1 one of 0, process 2 none at all.
PROCESSES = (
    (0, 0, 6, (((0,), 2), ((0, 1, 2, 3), 1), ((4,), 0))),
    (1, 0, 4, (((0, 1), 0), ((2,), 5))),
    (2, 0, 3, ()),
)
SNAPSHOTS = ((0, 3, (2,)), (1, 2, ()))
CELLS = (
    (1, "common", ((0, 5), (1, 3)), ()),
    (2, "common", ((2, 2),), ()),
    (3, "own", ((0, 0), (1, 0)), ()),
    (4, "own", ((0, 1),), ((0, 0), (1, 1))),
    (5, "own", ((0, 2),), ()),
    (6, "own", (), ((0, 1),)),
    (7, "own", ((2, 0),), ((1, 0),)),
)
HOUSE = (4, 4, ((None, None),), (4, 2), PROCESSES, SNAPSHOTS, CELLS, ((0, 3), (0, 4), (1, 1), (1, 2)))


class Writes(unittest.TestCase):
    def test_answers(self):
        told = {
            (0, 0): "copy", (0, 1): "copy", (0, 2): "place", (0, 3): "copy", (0, 4): "refused", (0, 5): "place",
            (1, 0): "refused", (1, 1): "refused", (1, 2): "copy", (1, 3): "place", (2, 0): "refused", (2, 2): "place",
        }
        self.assertEqual(set(told), set(places_of(HOUSE)))
        for (process, page), answer in told.items():
            self.assertEqual(write_answer(HOUSE, process, page), answer)
            for content in (0, 3, 10 ** 20, -9):
                behind, heard = behind_deed(HOUSE, ("write", process, page, content))
                self.assertEqual(heard, answer)
                self.assertTrue(is_house(behind))
                self.assertEqual(behind == HOUSE, answer == "refused")
                if answer != "refused":
                    self.assertEqual(read(behind, process, page), content)

    def test_a_write_in_place_keeps_cells_in_order(self):
        behind = behind_deed(HOUSE, ("write", 1, 3, 6))[0]
        self.assertEqual(behind[6][4:6], ((6, "common", ((0, 5), (1, 3)), ()), (6, "own", (), ((0, 1),))))
        self.assertEqual(behind[:6] + behind[7:], HOUSE[:6] + HOUSE[7:])

    def test_a_copy_of_a_shared_cell(self):
        behind = behind_deed(HOUSE, ("write", 0, 0, 9))[0]
        self.assertEqual(behind[6], CELLS[:2] + ((3, "own", ((1, 0),), ()),) + CELLS[3:] + ((9, "own", ((0, 0),), ()),))
        self.assertEqual(behind[4][0][3], (((0,), 1), ((0, 1, 2, 3), 0), ((4,), 0)))
        self.assertEqual([behind[:4], behind[5], behind[7], behind[4][1:]], [HOUSE[:4], SNAPSHOTS, HOUSE[7], PROCESSES[1:]])

    def test_a_copy_out_of_zeros_and_beside_readers(self):
        behind = behind_deed(HOUSE, ("write", 0, 3, 0))[0]
        self.assertEqual([behind[6][0], behind[7]], [(0, "own", ((0, 3),), ()), ((0, 4), (1, 1), (1, 2))])
        behind = behind_deed(HOUSE, ("write", 0, 1, 4))[0]
        self.assertIn((4, "own", (), ((0, 0), (1, 1))), behind[6])
        self.assertIn((4, "own", ((0, 1),), ()), behind[6])

    def test_nested_tickets_are_spent_together(self):
        behind, answers = behind_row(HOUSE, (("write", 0, 1, 5), ("write", 0, 0, 5), ("write", 0, 1, 6)))
        self.assertEqual(answers, ("copy", "refused", "place"))
        self.assertEqual(behind[4][0][3], (((0,), 2), ((0, 1, 2, 3), 0), ((4,), 0)))


class OtherDeeds(unittest.TestCase):
    def test_drops(self):
        behind, answer = behind_deed(HOUSE, ("drop", 0, 3))
        self.assertEqual([answer, behind], ["done", HOUSE[:7] + (((0, 4), (1, 1), (1, 2)),)])
        self.assertEqual(behind_deed(HOUSE, ("drop", 0, 2))[0], HOUSE[:6] + (CELLS[:4] + CELLS[5:], HOUSE[7]))
        self.assertEqual(behind_deed(HOUSE, ("drop", 2, 2))[0][6], CELLS[:1] + CELLS[2:])
        self.assertIn((7, "own", (), ((1, 0),)), behind_deed(HOUSE, ("drop", 2, 0))[0][6])
        self.assertIn((1, "common", ((1, 3),), ()), behind_deed(HOUSE, ("drop", 0, 5))[0][6])

    def test_exits(self):
        behind, answer = behind_deed(HOUSE, ("exit", 0))
        self.assertEqual(answer, "done")
        self.assertEqual(behind[4:], (PROCESSES[1:], SNAPSHOTS, (
            (1, "common", ((1, 3),), ()), CELLS[1], (3, "own", ((1, 0),), ()), (4, "own", (), ((0, 0), (1, 1))),
            CELLS[5], CELLS[6]), ((1, 1), (1, 2))))
        self.assertEqual(behind[:4], HOUSE[:4])
        behind = behind_row(HOUSE, (("exit", 2), ("exit", 0), ("exit", 1)))[0]
        self.assertEqual(behind[4:], ((), SNAPSHOTS, (
            (4, "own", (), ((0, 0), (1, 1))), CELLS[5], (7, "own", (), ((1, 0),))), ()))

    def test_lessens(self):
        behind, answer = behind_deed(HOUSE, ("lessen", 0, (0,), 0))
        self.assertEqual([answer, behind[4][0][3][0]], ["done", ((0,), 0)])
        self.assertEqual(behind_deed(HOUSE, ("lessen", 0, (0,), 2)), (HOUSE, "done"))
        self.assertEqual(behind_deed(HOUSE, ("lessen", 0, (4,), 0)), (HOUSE, "done"))

    def test_forgets(self):
        behind, answer = behind_deed(HOUSE, ("forget", 0))
        self.assertEqual(answer, "done")
        self.assertEqual(behind, HOUSE[:5] + (SNAPSHOTS[1:], CELLS[:3] + ((4, "own", ((0, 1),), ((1, 1),)),) + CELLS[4:5] + CELLS[6:],
                                              HOUSE[7]))
        behind = behind_row(HOUSE, (("forget", 1), ("forget", 0)))[0]
        self.assertEqual([behind[5], behind[6][3:]], [(), ((4, "own", ((0, 1),), ()), CELLS[4], (7, "own", ((2, 0),), ()))])

    def test_rows(self):
        self.assertEqual(behind_row(HOUSE, ()), (HOUSE, ()))
        deeds = (("write", 0, 2, 1), ("drop", 0, 2), ("forget", 0), ("write", 1, 1, 1), ("exit", 1), ("write", 0, 0, 8))
        behind, answers = behind_row(HOUSE, deeds)
        self.assertEqual(answers, ("place", "done", "done", "refused", "done", "place"))
        house = HOUSE
        for deed in deeds:
            house = behind_deed(house, deed)[0]
        self.assertEqual(behind, house)

    def test_read_and_shown(self):
        self.assertEqual(shown(HOUSE, 0), {0: 3, 1: 4, 2: 5, 3: 0, 4: 0, 5: 1})
        self.assertEqual([shown(HOUSE, 1), shown(HOUSE, 2)], [{0: 3, 1: 0, 2: 0, 3: 1}, {0: 7, 2: 2}])
        rng = random.Random(15)
        for house in [HOUSE, samples.great_house(rng)] + [samples.random_house(rng) for _ in range(100)]:
            for process in [row[0] for row in house[4]]:
                found = shown(house, process)
                self.assertEqual(list(found), sorted(found))
                self.assertEqual(found, {page: read(house, at, page) for at, page in places_of(house) if at == process})
                found.clear()
                self.assertEqual(len(shown(house, process)), len([place for place in places_of(house) if place[0] == process]))


class Errors(unittest.TestCase):
    def raises(self, error, fields, function, *arguments):
        with self.subTest(arguments=arguments), self.assertRaises(error) as caught:
            function(*arguments)
        self.assertEqual(tuple(vars(caught.exception).values()), fields)

    def test_of_deeds(self):
        for error, fields, deed in (
            (NoProcess, (3,), ("write", 3, 9, 0)), (NoProcess, (3,), ("drop", 3, 9)), (NoProcess, (9,), ("exit", 9)),
            (NoProcess, (3,), ("lessen", 3, (7,), 9)), (NoPlace, (2, 1), ("write", 2, 1, 0)), (NoPlace, (2, 3), ("write", 2, 3, 0)),
            (NoPlace, (2, 1), ("drop", 2, 1)), (NoPlace, (0, 6), ("drop", 0, 6)), (NoSnapshot, (2,), ("forget", 2)),
            (NoTicket, (0, (0, 1)), ("lessen", 0, (0, 1), 0)), (NoTicket, (0, (0,)), ("lessen", 0, (0,), 3)),
            (NoTicket, (2, (0,)), ("lessen", 2, (0,), 0)), (NoTicket, (0, (4,)), ("lessen", 0, (4,), 1)),
        ):
            self.raises(error, fields, behind_deed, HOUSE, deed)
            self.raises(error, fields, behind_row, HOUSE, (("write", 0, 2, 1), deed, ("exit", 33)))

    def test_of_reading(self):
        for function in (read, write_answer):
            self.raises(NoProcess, (3,), function, HOUSE, 3, 9)
            self.raises(NoPlace, (2, 1), function, HOUSE, 2, 1)
            self.raises(NoPlace, (2, 3), function, HOUSE, 2, 3)
        self.raises(NoProcess, (3,), shown, HOUSE, 3)

    def test_a_row_raises_the_first_error(self):
        self.raises(NoPlace, (0, 2), behind_row, HOUSE, (("drop", 0, 2), ("write", 0, 2, 1), ("exit", 7)))
        self.raises(NoProcess, (0,), behind_row, HOUSE, (("exit", 0), ("drop", 0, 2)))
        self.raises(NoTicket, (0, (0,)), behind_row, HOUSE, (("lessen", 0, (0,), 1), ("lessen", 0, (0,), 2)))


class Against(unittest.TestCase):
    def test_the_words_of_the_document(self):
        """All deeds, from all sorts of houses on, against what [2] says of them, done to parts that change."""
        rng = random.Random(16)
        seen = {}
        houses = [samples.random_house(rng) for _ in range(700)] + [samples.great_house(rng) for _ in range(2)]
        for house in houses:
            for _ in range(12):
                step = samples.random_step(rng, house)
                if is_deed(step):
                    house, answer = self.hold(house, step)
                    seen[step[0], answer] = True
        for word, answers in (("write", "place copy refused NoProcess NoPlace"), ("drop", "done NoProcess NoPlace"),
                              ("exit", "done NoProcess"), ("lessen", "done NoProcess NoTicket"), ("forget", "done NoSnapshot")):
            for answer in answers.split():
                self.assertIn((word, answer), seen)

    def hold(self, house, deed):
        told = slow.House(house)
        expected = told.error(deed)
        try:
            behind, answer = behind_deed(house, deed)
        except SwornError as error:
            self.assertEqual(expected, (type(error).__name__, tuple(vars(error).values())))
            return house, expected[0]
        self.assertIsNone(expected)
        self.assertEqual(answer, told.do(deed))
        self.assertEqual(behind, told.tuple())
        self.assertTrue(is_house(behind))
        self.assertEqual(behind_deed(house, deed), (behind, answer))
        self.assertLessEqual(len(behind[6]), len(house[6]) + (answer == "copy"))
        return behind, answer
