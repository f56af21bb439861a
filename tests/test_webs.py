"""[19]: webs."""

import random
import unittest

import samples
from pagesworn.forms import places_of
from pagesworn.webs import web_of
from pagesworn.wishes import behind_wish, first_house


def slow_web(house):
    """The web by the words of [19]."""
    tickets = [(row[0], lot, number) for row in house[4] for lot, number in row[3]]

    def innermost(process, pages, beside=None):
        held = [index for index, ticket in enumerate(tickets)
                if ticket[0] == process and pages <= set(ticket[1]) and index != beside]
        return min(held, key=lambda index: len(tickets[index][1]), default=None)

    rows = tuple((process, lot, number, innermost(process, set(lot), index))
                 for index, (process, lot, number) in enumerate(tickets))
    cell_at = {place: (index, cell[1]) for index, cell in enumerate(house[6]) for place in cell[2]}
    cell_at.update({place: (None, "own") for place in house[7]})
    places = []
    for place in sorted(cell_at):
        ticket = innermost(place[0], {place[1]})
        if cell_at[place][1] == "own" and ticket is not None:
            places.append((place, ticket, cell_at[place][0]))
    cells = tuple(0 if cell[1] == "common" else min(len(cell[2]), len(cell[2]) + len(cell[3]) - 1) for cell in house[6])
    return rows, tuple(places), cells


class Webs(unittest.TestCase):
    def test_no_processes(self):
        self.assertEqual(web_of(first_house(2, 0)), ((), (), ()))

    def test_all_sorts(self):
        forest = (((0,), 2), ((0, 1, 2), 3), ((0, 1, 2, 9), 4), ((4, 5), 0))
        rows = ((1, 0, 7, forest), (3, 0, 1, ()), (4, 0, 3, (((0, 2), 1), ((1,), 1))))
        cells = (
            (1, "common", ((1, 1), (4, 1)), ()),
            (2, "own", ((1, 0), (3, 0), (4, 0)), ()),
            (3, "own", ((1, 2),), ((0, 0), (0, 1))),
            (4, "own", (), ((0, 2),)),
            (5, "own", ((1, 3), (4, 2)), ((0, 3),)),
            (6, "own", ((1, 6),), ()),
        )
        house = (4, 4, ((None, None),), (5, 1), rows, ((0, 4, ()),), cells, ((1, 4),))
        self.assertEqual(web_of(house), (
            ((1, (0,), 2, 1), (1, (0, 1, 2), 3, 2), (1, (0, 1, 2, 9), 4, None), (1, (4, 5), 0, None),
             (4, (0, 2), 1, None), (4, (1,), 1, None)),
            (((1, 0), 0, 1), ((1, 2), 1, 2), ((1, 4), 3, None), ((4, 0), 4, 1), ((4, 2), 4, 4)),
            (0, 2, 1, 0, 2, 0)))

    def test_gone_and_common_places_are_none_of_it(self):
        house = behind_wish(first_house(2, 0), ("begin", 0, 3, (((0, 1, 2), 3),)))
        house = house[:7] + (house[7][1:],)
        self.assertEqual([row[0] for row in web_of(house)[1]], [(0, 1), (0, 2)])
        self.assertEqual(web_of(behind_wish(house, ("common", (0,), 1)))[2], (0,))

    def test_random_and_great_houses(self):
        rng = random.Random(19)
        for house in [samples.random_house(rng) for _ in range(800)] + [samples.great_house(rng) for _ in range(4)]:
            web = web_of(house)
            self.assertEqual(web, slow_web(house))
            self.assertEqual(web_of(house), web)
            self.assertEqual(list(web[1]), sorted(web[1]))
            self.assertLessEqual({row[0] for row in web[1]}, set(places_of(house)))
