"""[23]: a flow that is kept."""

import random
import unittest

import samples
import slow
from pagesworn.deeds import behind_deed, write_answer
from pagesworn.flows import flow_many, greatest_flow
from pagesworn.forms import is_deed, is_wish, places_of
from pagesworn.inside import is_kept
from pagesworn.keptflow import flow_behind, flow_behind_wish, widened_many
from pagesworn.webs import web_of
from pagesworn.wishes import behind_wish, first_house


def all_deeds(house):
    """All deeds that name what is there, each write with one content only."""
    deeds = [(word,) + place + more for place in places_of(house) for word, more in (("write", (-3,)), ("drop", ()))]
    for process, _, _, forest in house[4]:
        deeds.append(("exit", process))
        deeds += [("lessen", process, lot, less) for lot, number in forest for less in {0, number // 2, max(0, number - 1), number}]
    return deeds + [("forget", row[0]) for row in house[5]]


def one_process(tickets, many, cells=()):
    held = [place for cell in cells for place in cell[2]]
    zeros = tuple((0, page) for page in range(many) if (0, page) not in held)
    return (2, 0, ((None, None),), (1, 0), ((0, 0, many, tickets),), (), cells, zeros)


class Kept(unittest.TestCase):
    def hold(self, house, flow, step, most_of=slow.most_of_flows):
        """What is told behind a step, against the rule of [23]; gives back the house behind it and the flow."""
        self.assertTrue(is_deed(step) or is_wish(step))
        behind = behind_deed(house, step)[0] if is_deed(step) else behind_wish(house, step)
        led = flow_behind if is_deed(step) else flow_behind_wish
        found = led(house, flow, step)
        web = slow.web(behind)
        stays = slow.staying(web, flow)
        most = most_of(web)
        self.assertTrue(slow.is_flow(web, found), step)
        self.assertEqual(len(found), most)
        self.assertEqual(led(house, flow, step), found)
        if len(stays) == most:
            self.assertEqual(found, stays)
        if is_deed(step):
            many = widened_many(house, flow, step)
            self.assertEqual(many, most - len(stays))
            self.hold_deed(house, flow, step, found, many)
        return behind, found

    def hold_deed(self, house, flow, deed, found, many):
        if deed[0] == "write":
            answer = write_answer(house, deed[1], deed[2])
            self.seen[answer, deed[1:3] in flow, many] = True
            if answer == "copy" and deed[1:3] in flow:
                self.assertEqual([found, many], [tuple(place for place in flow if place != deed[1:3]), 0])
            elif answer != "copy":
                self.assertEqual([found, many], [flow, 0])
        if deed[0] in ("write", "drop"):
            self.assertLessEqual(many, 1)
        else:
            self.seen[deed[0], many > 0] = True

    def setUp(self):
        self.seen = {}


class Deeds(Kept):
    def test_all_deeds_in_small_houses(self):
        rng = random.Random(40)
        for _ in range(250):
            house = samples.any_house(rng)
            flow = samples.any_greatest_flow(rng, web_of(house), slow.is_flow)
            for deed in all_deeds(house):
                self.hold(house, flow, deed)
        for kind in (("copy", True, 0), ("copy", False, 0), ("copy", False, 1), ("place", False, 0), ("refused", False, 0),
                     ("exit", True), ("exit", False), ("lessen", True), ("lessen", False), ("forget", False)):
            self.assertIn(kind, self.seen)

    def test_great_houses(self):
        rng = random.Random(41)
        for house in samples.great_houses(rng):
            flow = greatest_flow(web_of(house))
            for deed in rng.sample(all_deeds(house), 12) + [("exit", house[4][0][0]), ("forget", house[5][0][0])]:
                with samples.moments(self):
                    flow_behind(house, flow, deed)
                    widened_many(house, flow, deed)
                self.hold(house, flow, deed, flow_many)

    def test_a_copy_of_a_place_of_the_flow(self):
        house = one_process((((0, 1, 2), 2),), 3)
        self.assertEqual(flow_behind(house, ((0, 0), (0, 2)), ("write", 0, 2, 7)), ((0, 0),))
        self.assertEqual(flow_behind(house, ((0, 0), (0, 2)), ("write", 0, 1, 7)), ((0, 0),))
        self.assertEqual(flow_behind(house, ((0, 1), (0, 2)), ("drop", 0, 2)), ((0, 0), (0, 1)))
        self.assertEqual(widened_many(house, ((0, 1), (0, 2)), ("drop", 0, 2)), 1)

    def test_a_cell_that_has_too_many_keeps_its_least_ones(self):
        rows = tuple((number, 0, 1, (((0,), 1),)) for number in range(4))
        shared = ((5, "own", ((0, 0), (1, 0), (2, 0), (3, 0)), ((0, 0),)),)
        house = (2, 0, ((None, None),), (4, 1), rows, ((0, 1, ()),), shared, ())
        flow = ((0, 0), (1, 0), (2, 0), (3, 0))
        self.assertEqual(flow_behind(house, flow, ("forget", 0)), flow[:3])
        self.assertEqual(flow_behind(house[:6] + (((5, "own", flow, ()),), ()), flow[:3], ("exit", 1)), ((0, 0), (2, 0)))
        self.assertEqual(flow_behind(house[:6] + (((5, "own", flow, ()),), ()), flow[1:], ("exit", 0)), ((1, 0), (2, 0)))
        self.assertEqual(widened_many(house, flow, ("forget", 0)), 0)

    def test_nested_tickets_that_have_too_many(self):
        """The one with the fewest pages comes first: so the outer one then has no more than it may."""
        house = one_process((((0, 1), 1), ((0, 1, 2, 3), 2)), 4)
        self.assertEqual(flow_behind(house, ((0, 1), (0, 3)), ("write", 0, 0, 7)), ((0, 3),))
        self.assertEqual(widened_many(house, ((0, 1), (0, 3)), ("write", 0, 0, 7)), 0)
        self.assertEqual(flow_behind(house, ((0, 2), (0, 3)), ("lessen", 0, (0, 1, 2, 3), 1)), ((0, 2),))
        self.assertEqual(flow_behind(house, ((0, 1), (0, 3)), ("lessen", 0, (0, 1, 2, 3), 0)), ())

    def test_cells_come_ahead_of_tickets(self):
        """The cell loses its place first, and so the ticket keeps the greater one."""
        house = one_process((((0, 1, 2), 2),), 3, ((5, "own", ((0, 0), (0, 1)), ()),))
        self.assertEqual(flow_behind(house, ((0, 1), (0, 2)), ("write", 0, 0, 7)), ((0, 2),))
        self.assertEqual(widened_many(house, ((0, 1), (0, 2)), ("write", 0, 0, 7)), 0)


class Wishes(Kept):
    def test_all_wishes_in_small_houses(self):
        rng = random.Random(42)
        words = {}
        for _ in range(400):
            house = samples.any_house(rng)
            flow = samples.any_greatest_flow(rng, web_of(house), slow.is_flow)
            for wish, behind in samples.named_wishes(rng, house, 6):
                if len(places_of(behind)) < 12:
                    words[wish[0], is_kept(behind)] = True
                    self.hold(house, flow, wish)
        for word in set(slow.STEPS) - set(slow.DEEDS):
            self.assertTrue((word, True) in words and (word, False) in words, word)

    def test_great_houses(self):
        rng = random.Random(43)
        for house in samples.great_houses(rng):
            flow = greatest_flow(web_of(house))
            for wish, _ in samples.named_wishes(rng, house, 8):
                with samples.moments(self):
                    flow_behind_wish(house, flow, wish)
                self.hold(house, flow, wish, flow_many)

    def test_tickets_that_are_lessened_together(self):
        house = one_process((((0, 1, 2, 3, 4, 5), 6),), 6)
        flow = places = tuple((0, page) for page in range(6))
        forest = (((0, 1, 2), 1), ((0, 1, 2, 3, 4), 2), ((0, 1, 2, 3, 4, 5), 3))
        self.assertEqual(flow_behind_wish(house, flow, ("raise", 0, forest)), ((0, 0), (0, 3), (0, 5)))
        self.assertEqual(flow_behind_wish(house, flow, ("raise", 0, (((2, 3), 0), ((2, 3, 4), 9)))), ((0, 4),))
        self.assertEqual(flow_behind_wish(house, flow, ("raise", 0, ())), ())
        self.assertEqual(flow_behind_wish(house, flow, ("more", 0, 3)), places)

    def test_what_a_back_brings_stays_where_it_can(self):
        house = behind_wish(one_process((((0, 1), 2),), 2), ("snapshot", 0))
        house = behind_deed(house, ("write", 0, 0, 7))[0]
        self.assertEqual(flow_behind_wish(house, ((0, 1),), ("back", 0, 0)), ((0, 1),))


class Rows(Kept):
    def test_one_flow_is_led_on(self):
        """Many deeds and wishes from first_house on, wishes that are not granted being done as well as others."""
        rng = random.Random(44)
        lengths = {}
        for _ in range(25):
            house = behind_wish(first_house(4, 2), ("begin", 0, 3, (((0, 1, 2), 2),)))
            flow = greatest_flow(web_of(house))
            for _ in range(100):
                step = self.next_step(rng, house)
                house, flow = self.hold(house, flow, step, flow_many)
                lengths[len(flow)] = True
        self.assertGreater(max(lengths), 9)
        for kind in (("copy", False, 0), ("copy", False, 1), ("copy", True, 0), ("forget", True), ("lessen", True)):
            self.assertIn(kind, self.seen)

    def next_step(self, rng, house):
        """A step behind which there are not too many places; tickets are many, what makes all go is rare."""
        while True:
            step = samples.named_steps(rng, house, 1)[0][0]
            if step[0] in ("begin", "raise", "fork"):
                step = step[:-1] + (samples.random_forest(rng, range(5), 4, 3) or (((0, 1, 2, 3, 4, 5), 3),),)
            behind = behind_deed(house, step)[0] if is_deed(step) else behind_wish(house, step)
            rare = step[0] in ("exit", "drop", "lessen", "raise") and rng.random() < 0.7
            if not rare and len(places_of(behind)) < 60:
                return step
