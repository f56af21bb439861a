"""[22], with LIVE, CAPACITY, FLOW and NEED of [2], and the guarantee [6]: need."""

import random
import unittest

import samples
import slow
from pagesworn.deeds import behind_deed, behind_row, read
from pagesworn.errors import TooMany
from pagesworn.flows import greatest_flow
from pagesworn.need import capacity, flow_of, live, most_by_walking, need, reaching_row
from pagesworn.webs import web_of
from pagesworn.wishes import behind_wish, first_house

# All sorts: a common cell, a cell of readers alone, one place with a reader, a cell of three places, zeros.
PROCESSES = ((0, 0, 5, (((0, 1), 1), ((3,), 0), ((4,), 2))), (1, 0, 3, (((0,), 1), ((0, 1, 2), 2))), (2, 0, 1, ()))
CELLS = ((1, "common", ((0, 4), (1, 2)), ()), (3, "own", (), ((0, 1),)), (4, "own", ((0, 1),), ((0, 0),)),
         (5, "own", ((0, 0), (1, 0), (2, 0)), ()))
HOUSE = (3, 4, ((None, None),), (3, 1), PROCESSES, ((0, 2, ()),), CELLS, ((0, 3), (1, 1)))


class Numbers(unittest.TestCase):
    def test_all_sorts(self):
        self.assertEqual([live(HOUSE), capacity(HOUSE), flow_of(HOUSE), need(HOUSE)], [4, 7, 3, 7])
        self.assertEqual([slow.flow(HOUSE), slow.need(HOUSE)], [3, 7])

    def test_no_processes(self):
        house = first_house(2, 0)
        self.assertEqual([live(house), capacity(house), flow_of(house), need(house), reaching_row(house)], [0, 2, 0, 0, ()])
        self.assertEqual(most_by_walking(house), 0)
        self.assertEqual(capacity(first_house(10 ** 9 - 1, 10 ** 9 - 1)), 2 * 10 ** 9 - 2)

    def test_who_may_copy_at_last(self):
        """The last place that shows a cell makes no copy, if no reader does."""
        forest = (((0,), 9),)
        rows = ((0, 0, 1, forest), (1, 0, 1, forest))
        house = (2, 0, ((None, None),), (2, 1), rows, (), ((5, "own", ((0, 0), (1, 0)), ()),), ())
        self.assertEqual([flow_of(house), need(house)], [1, 2])
        read_too = house[:5] + (((0, 1, ()),), ((5, "own", ((0, 0), (1, 0)), ((0, 0),)),), ())
        self.assertEqual([flow_of(read_too), need(read_too)], [2, 3])

    def test_small_and_great_houses(self):
        rng = random.Random(30)
        for house in [samples.small_house(rng) for _ in range(500)]:
            self.assertEqual([live(house), flow_of(house), need(house)], [len(house[6]), slow.flow(house), slow.need(house)])
            self.assertEqual(capacity(house), house[0] + house[1])
        for house in samples.great_houses(rng):
            with samples.moments(self):
                found = [live(house), capacity(house), flow_of(house), need(house)]
            flow = len(greatest_flow(web_of(house)))
            self.assertEqual(found, [len(house[6]), house[0] + house[1], flow, len(house[6]) + flow])


class Reaching(unittest.TestCase):
    def hold(self, rng, house):
        row = reaching_row(house)
        flow = tuple(deed[1:3] for deed in row)
        self.assertEqual(reaching_row(house), row)
        self.assertTrue(slow.is_flow(slow.web(house), flow))
        self.assertEqual(len(row), flow_of(house))
        self.assertEqual(list(row), sorted(row))
        for deed in row:
            self.assertEqual(deed, ("write", deed[1], deed[2], read(house, deed[1], deed[2])))
        for order in (list(row), list(row)[::-1], rng.sample(row, len(row))):
            self.led(house, order)

    def led(self, house, order):
        needed = need(house)
        for many, deed in enumerate(order, 1):
            later, answer = behind_deed(house, deed)
            self.assertEqual([answer, live(later), need(later)], ["copy", live(house) + 1, needed])
            self.assertEqual(later, slow.behind(house, [deed]))
            house = later
        self.assertEqual(live(house), needed)

    def test_small_houses(self):
        rng = random.Random(31)
        self.hold(rng, HOUSE)
        self.hold(rng, first_house(2, 0))
        for _ in range(250):
            self.hold(rng, samples.any_house(rng))

    def test_great_houses(self):
        rng = random.Random(32)
        for house in samples.great_houses(rng)[::2]:
            with samples.moments(self):
                row = reaching_row(house)
            last, answers = behind_row(house, row)
            self.assertEqual([live(last), need(last), set(answers)], [need(house), need(house), {"copy"}])
            if len(row) < 25:
                self.hold(rng, house)


class Walking(unittest.TestCase):
    def test_it_tells_need(self):
        """Against need, and against a second walker, where so few houses come."""
        rng = random.Random(33)
        told, barred = 0, 0
        while told < 120 or barred < 20:
            house = samples.small_house(rng)
            if sum(len(cell[2]) + len(cell[3]) for cell in house[6]) + len(house[7]) > 7:
                continue
            met = slow.walk(house, 300)
            if met is None:
                barred += 1
                self.assert_too_many(house)
            else:
                told += 1
                self.assertEqual(most_by_walking(house), max(len(later[6]) for later in met))
                self.assertEqual(most_by_walking(house), need(house))

    def assert_too_many(self, house):
        with self.assertRaises(TooMany) as caught:
            most_by_walking(house)
        self.assertEqual(vars(caught.exception), {"most": 300})

    def test_just_three_hundred_are_gone_through(self):
        # 5 * 5 * 3 * 2 * 2, the house itself being one of them.
        rows = ((0, 0, 1, (((0,), 1),)), (1, 0, 1, (((0,), 2),)), (2, 0, 1, ()))
        just = (2, 0, ((None, None),), (3, 2), rows, ((0, 0, ()), (1, 0, ())), (), ((0, 0), (1, 0), (2, 0)))
        self.assertEqual(len(slow.walk(just, 1000)), 300)
        self.assertEqual(most_by_walking(just), 2)
        shared = (2, 0, ((None, None),), (4, 2), ((0, 0, 2, ()), (2, 0, 3, (((0,), 2),)), (3, 0, 1, ())), ((0, 1, ()), (1, 2, ())),
                  ((4, "own", (), ((1, 0),)), (7, "common", ((0, 0), (0, 1), (3, 0)), ()), (7, "own", ((2, 2),), ((1, 1),))),
                  ((2, 1),))
        self.assertEqual(len(slow.walk(shared, 1000)), 300)
        self.assertEqual(most_by_walking(shared), need(shared))

    def test_one_more_is_too_many(self):
        one_more = (3, 3, ((None, None),), (2, 2), ((0, 0, 3, (((0, 1, 3, 4), 2), ((3,), 0))), (1, 0, 2, ())), ((1, 1, ()),),
                    ((-2, "own", ((0, 0), (0, 1), (0, 2), (1, 1)), ((1, 0),)),), ((1, 0),))
        self.assertEqual(len(slow.walk(one_more, 1000)), 301)
        self.assert_too_many(one_more)
        other = (2, 0, ((None, None),), (2, 2), ((0, 0, 2, (((0,), 0),)), (1, 0, 3, (((0, 2), 2),))), ((0, 3, (2,)),),
                 ((2, "own", ((0, 0),), ((0, 0),)), (6, "own", ((0, 1), (1, 0), (1, 1), (1, 2)), ((0, 1),))), ())
        self.assertEqual(len(slow.walk(other, 1000)), 301)
        self.assert_too_many(other)

    def test_two_ways_to_one_house_count_once(self):
        # Eight processes without pages: 256 houses, to which there are 8! ways and more.
        rows = tuple((number, 0, 0, ()) for number in range(8))
        house = (2, 0, ((None, None),), (9, 0), rows, (), (), ())
        self.assertEqual(most_by_walking(house), 0)
        self.assert_too_many(house[:4] + (rows + ((8, 0, 0, ()),),) + house[5:])

    def test_great_houses(self):
        rng = random.Random(34)
        for house in samples.great_houses(rng):
            with samples.moments(self):
                self.assert_too_many(house)


class Guarantee(unittest.TestCase):
    def test_no_deed_makes_need_greater(self):
        """[6], behind rows of deeds of all sorts, refused writes among them; and only so does a house stay kept."""
        rng = random.Random(35)
        seen = {}
        for house in [samples.any_house(rng) for _ in range(250)] + samples.great_houses(rng)[::3]:
            for _ in range(12):
                found = [pair for pair in samples.named_steps(rng, house, 4) if pair[0][0] in slow.DEEDS]
                for deed, later in found[:1]:
                    self.assertLessEqual(need(later), need(house))
                    self.assertLessEqual(live(later), need(house))
                    seen[deed[0], need(later) < need(house)] = True
                    house = later
        self.assertEqual({word for word, _ in seen}, set(slow.DEEDS))

    def test_need_is_come_to_and_never_passed(self):
        """[6]: the most cells of all houses that any deeds lead to, other contents and lessens among them."""
        rng = random.Random(36)
        for _ in range(150):
            house = samples.small_house(rng)
            later = house
            most = 0
            for _ in range(25):
                for deed, behind in samples.named_steps(rng, later, 3):
                    if deed[0] in slow.DEEDS:
                        later = behind
                        most = max(most, live(behind))
            self.assertLessEqual(most, need(house))
            self.assertEqual(live(behind_row(house, reaching_row(house))[0]), need(house))

    def test_wishes_may_make_it_greater(self):
        house = behind_wish(first_house(4, 0), ("begin", 0, 2, (((0, 1), 1),)))
        self.assertEqual([need(house), need(behind_wish(house, ("raise", 0, (((0, 1), 5),))))], [1, 2])
