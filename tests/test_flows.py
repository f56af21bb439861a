"""[20], with FLOW of [2]: flows."""

import random
import unittest
from itertools import combinations

import samples
import slow
from pagesworn.flows import flow_many, greatest_flow, is_flow, widened
from pagesworn.webs import web_of

# Process 0: ticket 1 is around ticket 0. Process 2: one ticket of the number 0, one of nine digits.
TICKETS = ((0, (0, 1), 1, 1), (0, (0, 1, 2, 5), 2, None), (2, (0,), 0, None), (2, (1, 2, 3), 10 ** 9 - 1, None))
PLACES = (((0, 0), 0, 0), ((0, 1), 0, None), ((0, 2), 1, 1), ((0, 5), 1, 1), ((2, 0), 2, 0), ((2, 1), 3, 1), ((2, 2), 3, None),
          ((2, 3), 3, 2))
WEB = (TICKETS, PLACES, (2, 1, 0))
GREATEST = ((0, 1), (0, 2), (2, 2))


class IsFlow(unittest.TestCase):
    def holds(self, web, things):
        return samples.agreed(self, is_flow, slow.is_flow, (web,), things)

    def test_all_lots_of_places(self):
        places = [row[0] for row in PLACES]
        lots = [lot for many in range(len(places) + 1) for lot in combinations(places, many)]
        answers = self.holds(WEB, lots)
        self.assertIs(is_flow(WEB, GREATEST), True)
        self.assertGreater(answers.count(False), answers.count(True))

    def test_what_bars(self):
        for thing in (((0, 0), (0, 1)), ((0, 1), (0, 2), (0, 5)), ((2, 0),), ((0, 2), (2, 1)), ((2, 3),)):
            self.assertIs(is_flow(WEB, thing), False)
        # The outer ticket counts those of the inner one, too.
        outer = (((0, (0, 1), 9, 1), (0, (0, 1, 2), 2, None)), tuple(((0, page), page // 2, None) for page in range(3)), ())
        self.assertEqual([is_flow(outer, thing) for thing in (((0, 0), (0, 1)), ((0, 0), (0, 1), (0, 2)), ((0, 0), (0, 2)))],
                         [True, False, True])

    def test_no_places_of_the_web(self):
        self.assertEqual(self.holds(WEB, [((0, 3),), ((1, 0),), ((2, 2), (3, 0)), ((0, 10 ** 39),), ((0, 1), (0, 3), (2, 2))]),
                         [False] * 5)
        self.assertEqual(self.holds(((), (), ()), [(), ((0, 0),), []]), [True, False, False])

    def test_out_of_order_twice_and_other_kinds(self):
        for thing in (GREATEST[::-1], GREATEST + GREATEST[-1:], list(GREATEST), ([0, 1],), ((0, True),), ((False, 1),),
                      ((0, 1, 0),), ((0,),), {(0, 1): 1}, (0, 1), ((0, "1"),), (((0, 1),),)):
            self.assertEqual(self.holds(WEB, [thing]), [False])
        self.assertIs(is_flow(WEB, ((0, 1),)), True)

    def test_changed_and_odd_values(self):
        for flow in (GREATEST, ((0, 0), (0, 2), (2, 2)), ()):
            self.assertIs(is_flow(WEB, flow), True)
            self.assertIn(False, self.holds(WEB, samples.changed(flow)))
        self.holds(WEB, samples.odd_values())
        self.holds(web_of(samples.great_house(random.Random(1))), samples.odd_values())

    def test_places_more_out_and_exchanged_in_great_webs(self):
        rng = random.Random(20)
        for house in samples.great_houses(rng):
            web = web_of(house)
            flow = greatest_flow(web)
            places = [row[0] for row in web[1]]
            self.holds(web, [flow] + [flow[:at] + flow[at + 1:] for at in range(0, len(flow), 9)])
            for place in rng.sample(places, 20):
                self.holds(web, [tuple(sorted(flow + (place,))), flow + (place,), tuple(sorted(flow[1:] + (place,)))])


class Greatest(unittest.TestCase):
    def hold(self, web):
        most = slow.most_of_flows(web)
        flow = greatest_flow(web)
        self.assertTrue(slow.is_flow(web, flow))
        self.assertEqual([len(flow), flow_many(web)], [most, most])
        self.assertEqual(greatest_flow(web), flow)
        return most

    def test_the_one_above(self):
        self.assertEqual(self.hold(WEB), 3)
        self.assertEqual(self.hold(((), (), ())), 0)
        self.assertEqual(self.hold((TICKETS, (), (3, 3))), 0)
        self.assertEqual(self.hold((TICKETS, PLACES, (10 ** 9 - 1, 10 ** 9 - 1, 10 ** 9 - 1))), 5)
        self.assertEqual(self.hold((TICKETS, PLACES, (0, 0, 0))), 2)

    def test_small_webs(self):
        rng = random.Random(21)
        seen = [self.hold(samples.random_web(rng)) for _ in range(1500)]
        self.assertGreaterEqual(len(set(seen)), 7)

    def test_flow_of_houses(self):
        rng = random.Random(22)
        for _ in range(600):
            house = samples.small_house(rng)
            self.assertEqual(self.hold(web_of(house)), slow.flow(house))

    def test_long_chains(self):
        for many in (2, 3, 9, 60):
            web, flow = samples.chain_web(many)
            self.assertEqual(flow_many(web), many)
            self.assertTrue(is_flow(web, greatest_flow(web)))
            self.assertEqual(widened(web, flow), tuple((process, 0) for process in range(many)))


class Widened(unittest.TestCase):
    def hold(self, web, flow):
        """The flow gets one place more each time, then None comes; tells how often."""
        many = 0
        while True:
            longer = widened(web, flow)
            self.assertEqual(widened(web, flow), longer)
            if longer is None:
                self.assertEqual(len(flow), flow_many(web))
                return many
            self.assertTrue(slow.is_flow(web, longer))
            self.assertEqual(len(longer), len(flow) + 1)
            flow = longer
            many += 1

    def test_from_nothing_to_a_greatest_one(self):
        self.assertEqual(self.hold(WEB, ()), 3)
        self.assertIsNone(widened(WEB, greatest_flow(WEB)))
        self.assertIsNone(widened(((), (), ()), ()))
        rng = random.Random(23)
        for _ in range(300):
            web = samples.random_web(rng)
            self.hold(web, ())
            self.assertIsNone(widened(web, greatest_flow(web)))

    def test_from_flows_to_which_nothing_can_simply_be_put(self):
        rng = random.Random(24)
        seen = []
        for _ in range(1500):
            web = samples.random_web(rng)
            flow = samples.some_flow(rng, web, slow.is_flow)
            simply = any(slow.is_flow(web, tuple(sorted(flow + (row[0],)))) for row in web[1])
            seen.append((simply, self.hold(web, flow) > 0))
        self.assertEqual(set(seen), {(True, True), (False, True), (False, False)})
        self.assertGreater(seen.count((False, True)), 20)

    def test_nested_tickets_give_way(self):
        # Place (1, 0) comes only if what is in its cell goes, and page 0 comes for it, in the room that it leaves.
        tickets = ((0, (0, 1), 1, 1), (0, (0, 1, 2), 1, None), (1, (0,), 1, None))
        places = (((0, 0), 0, 0), ((0, 1), 0, 1), ((0, 2), 1, 1), ((1, 0), 2, 1))
        web = (tickets, places, (1, 1))
        self.assertEqual(widened(web, ((0, 2),)), ((0, 0), (1, 0)))
        self.assertEqual(widened(web, ((0, 1),)), ((0, 0), (1, 0)))
        self.assertEqual(len(widened(web, ((1, 0),))), 2)
        self.assertIsNone(widened(web, ((0, 0), (1, 0))))

    def test_great_webs(self):
        rng = random.Random(25)
        for house in samples.great_houses(rng):
            web = web_of(house)
            flow = samples.some_flow(rng, web, slow.is_flow)
            with samples.moments(self):
                longer = flow
                while longer is not None:
                    flow, longer = longer, widened(web, longer)
            self.assertTrue(slow.is_flow(web, flow))
            self.assertEqual(len(flow), flow_many(web))
