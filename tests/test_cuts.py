"""[21]: cuts."""

import random
import unittest
from itertools import product

import samples
import slow
from pagesworn.cuts import is_cut, least_cut, size_of_cut
from pagesworn.flows import flow_many, greatest_flow, is_flow
from pagesworn.webs import web_of

TICKETS = ((0, (0, 1), 1, 1), (0, (0, 1, 2), 3, None), (1, (0,), 0, None))
PLACES = (((0, 0), 0, 0), ((0, 1), 0, None), ((0, 2), 1, 1), ((1, 0), 2, 0))
WEB = (TICKETS, PLACES, (2, 1))
CUTS = (((1, 2), (), ()), ((0, 2), (2,), ()), ((2,), (0, 1, 2), ()), ((), (1, 2), (0,)), ((0,), (), (0, 1)), ((), (1,), (0, 1)),
        ((0, 1, 2), (0, 1, 2, 3), (0, 1)), ((0, 2), (), (1,)))


def all_parts(many):
    return [tuple(index for index in range(many) if mask >> index & 1) for mask in range(2 ** many)]


def all_cuts(web):
    """All cuts of a web, every lot of tickets, places and cells being gone through."""
    return [thing for thing in product(*[all_parts(len(part)) for part in web]) if slow.is_cut(web, thing)]


class IsCut(unittest.TestCase):
    def holds(self, web, things):
        return samples.agreed(self, is_cut, slow.is_cut, (web,), things)

    def test_cuts(self):
        self.assertEqual(self.holds(WEB, CUTS), [True] * len(CUTS))
        self.assertEqual(self.holds(((), (), ()), [((), (), ()), ((0,), (), ()), ((), (0,), ()), ((), (), (0,)), ()]),
                         [True, False, False, False, False])

    def test_all_lots(self):
        answers = self.holds(WEB, list(product(*[all_parts(len(part)) for part in WEB])))
        self.assertEqual(answers.count(True), len(all_cuts(WEB)))

    def test_an_index_out(self):
        least = (((1, 2), (), ()), ((0, 2), (2,), ()), ((2,), (0, 1, 2), ()), ((), (1, 2), (0,)), ((), (1,), (0, 1)))
        for cut in least:
            for at, part in enumerate(cut):
                for index in part:
                    self.assertEqual(self.holds(WEB, [cut[:at] + (tuple(i for i in part if i != index),) + cut[at + 1:]]), [False])

    def test_more_beyond_twice_and_out_of_order(self):
        self.assertEqual(self.holds(WEB, [((0, 1, 2), (), ()), ((1, 2), (3,), (0,))]), [True, True])
        for thing in (((1, 2, 3), (), ()), ((1, 2), (4,), ()), ((1, 2), (), (2,)), ((1, 2, 2), (), ()), ((2, 1), (), ()),
                      ((1, 2), (), (1, 0)), ((1, 2), (0, 0), ()), ((-1, 1, 2), (), ()), ((1, 2), (-1,), ()), ((1, 2), (), ()) + ((),),
                      ((1, 2), ()), ((1, 2, 10 ** 39), (), ())):
            self.assertEqual(self.holds(WEB, [thing]), [False])

    def test_other_kinds(self):
        self.assertIs(is_cut(WEB, ((1, 2), (0,), ())), True)
        for thing in ([(1, 2), (), ()], ([1, 2], (), ()), ((1, 2), [], ()), ((True, 2), (), ()), ((1, 2), (False,), ()),
                      ((1, 2), (), (True,)), ((1, 2), None, ()), ((1, 2), (), 0), ((1, 2), "", ()), {0: (1, 2), 1: (), 2: ()}):
            self.assertEqual(self.holds(WEB, [thing]), [False])

    def test_changed_and_odd_values(self):
        for cut in CUTS:
            answers = self.holds(WEB, samples.changed(cut))
            self.assertIn(False, answers)
        self.holds(WEB, samples.odd_values())
        self.holds(web_of(samples.great_house(random.Random(2))), samples.odd_values())

    def test_a_cell_of_none_holds_no_zeros(self):
        web = (((0, (0,), 5, None),), (((0, 0), 0, None),), (4,))
        self.assertEqual(self.holds(web, [((), (), (0,)), ((), (0,), ()), ((0,), (), ())]), [False, True, True])


class Sizes(unittest.TestCase):
    def test_sizes(self):
        self.assertEqual([size_of_cut(WEB, cut) for cut in CUTS], [3, 2, 3, 4, 4, 4, 11, 2])
        self.assertEqual([size_of_cut(WEB, cut) for cut in all_cuts(WEB)], [slow.size_of_cut(WEB, cut) for cut in all_cuts(WEB)])
        many = 10 ** 9 - 1
        web = (((0, (0,), many, None),), (((0, 0), 0, 0),), (many,))
        self.assertEqual(size_of_cut(web, ((0,), (0,), (0,))), 2 * many + 1)
        self.assertEqual(size_of_cut(((), (), ()), ((), (), ())), 0)


class Least(unittest.TestCase):
    def hold(self, web):
        cut = least_cut(web)
        self.assertTrue(slow.is_cut(web, cut))
        self.assertIs(is_cut(web, cut), True)
        self.assertEqual([size_of_cut(web, cut), slow.size_of_cut(web, cut)], [flow_many(web)] * 2)
        self.assertEqual(least_cut(web), cut)
        return cut

    def test_against_all_cuts(self):
        rng = random.Random(26)
        many = 0
        while many < 250:
            web = samples.random_web(rng)
            if 0 < sum(len(part) for part in web) <= 11 and web[1]:
                least = min(slow.size_of_cut(web, cut) for cut in all_cuts(web))
                self.assertEqual(size_of_cut(web, self.hold(web)), least)
                many += 1

    def test_small_webs(self):
        rng = random.Random(27)
        self.hold(WEB)
        self.hold(((), (), ()))
        for _ in range(1500):
            self.hold(samples.random_web(rng))

    def test_nested_webs(self):
        """Too great to go through all flows: the cut shows that the flow, which is one, is a greatest one."""
        rng = random.Random(30)
        for _ in range(1200):
            web = samples.nested_web(rng, 8, 6, 16)
            self.hold(web)
            self.assertTrue(slow.is_flow(web, greatest_flow(web)))
        for sizes in ((12, 10, 30), (10, 8, 30), (6, 20, 25)):
            for _ in range(60):
                self.hold(samples.nested_web(rng, *sizes))

    def test_a_flow_and_a_cut_show_one_another(self):
        """No flow is greater than any cut."""
        rng = random.Random(28)
        for _ in range(300):
            web = samples.random_web(rng)
            flow = samples.some_flow(rng, web, slow.is_flow)
            tickets = tuple(index for index in range(len(web[0])) if rng.random() < 0.5)
            cells = tuple(index for index in range(len(web[2])) if rng.random() < 0.5)
            places = tuple(index for index, row in enumerate(web[1])
                           if row[2] not in cells and not set(tickets) & set(slow.held_by(web, index)))
            self.assertIs(is_cut(web, (tickets, places, cells)), True)
            self.assertGreaterEqual(size_of_cut(web, (tickets, places, cells)), len(flow))

    def test_webs_up_to_the_bounds(self):
        rng = random.Random(29)
        for _ in range(6):
            for house in samples.great_houses(rng):
                web = web_of(house)
                with samples.moments(self):
                    self.hold(web)
                self.assertTrue(is_flow(web, greatest_flow(web)))
        for many in (2, 9, 60):
            web, flow = samples.chain_web(many)
            self.hold(web)
            self.assertEqual(size_of_cut(web, least_cut(web)), many)
