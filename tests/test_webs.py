"""[19]: webs."""

import random
import unittest

import samples
import slow
from pagesworn.forms import places_of
from pagesworn.webs import web_of
from pagesworn.wishes import behind_wish, first_house


class Webs(unittest.TestCase):
    def test_no_processes(self):
        self.assertEqual(web_of(first_house(2, 0)), ((), (), ()))

    def test_all_sorts(self):
        forest = (((0,), 2), ((0, 1, 2), 3), ((0, 1, 2, 9), 4), ((4, 5), 0))
        rows = ((1, 0, 7, forest), (3, 0, 1, ()), (4, 0, 3, (((0, 2), 1), ((1,), 1))))
        cells = (
            (1, "common", ((1, 1), (4, 1)), ()),
            (2, "own", ((1, 0), (3, 0), (4, 0)), ()),
            (3, "own", ((1, 2),), ((0, 0), (0, 1))),
            (4, "own", (), ((0, 2),)),
            (5, "own", ((1, 3), (4, 2)), ((0, 3),)),
            (6, "own", ((1, 6),), ()),
        )
        house = (4, 4, ((None, None),), (5, 1), rows, ((0, 4, ()),), cells, ((1, 4),))
        self.assertEqual(web_of(house), (
            ((1, (0,), 2, 1), (1, (0, 1, 2), 3, 2), (1, (0, 1, 2, 9), 4, None), (1, (4, 5), 0, None),
             (4, (0, 2), 1, None), (4, (1,), 1, None)),
            (((1, 0), 0, 1), ((1, 2), 1, 2), ((1, 4), 3, None), ((4, 0), 4, 1), ((4, 2), 4, 4)),
            (0, 2, 1, 0, 2, 0)))

    def test_gone_and_common_places_are_none_of_it(self):
        house = behind_wish(first_house(2, 0), ("begin", 0, 3, (((0, 1, 2), 3),)))
        house = house[:7] + (house[7][1:],)
        self.assertEqual([row[0] for row in web_of(house)[1]], [(0, 1), (0, 2)])
        self.assertEqual(web_of(behind_wish(house, ("common", (0,), 1)))[2], (0,))

    def test_random_and_great_houses(self):
        rng = random.Random(19)
        for house in [samples.random_house(rng) for _ in range(800)] + [samples.great_house(rng) for _ in range(4)]:
            web = web_of(house)
            self.assertEqual(web, slow.web(house))
            self.assertEqual(web_of(house), web)
            self.assertEqual(list(web[1]), sorted(web[1]))
            self.assertLessEqual({row[0] for row in web[1]}, set(places_of(house)))
