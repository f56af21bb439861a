"""[28]: spreads, what a process that is there many times can copy."""

import random
import unittest

import samples
import slow
from pagesworn.cuts import is_cut, least_cut
from pagesworn.errors import NoProcess
from pagesworn.flows import flow_many
from pagesworn.forms import is_house, process_of
from pagesworn.spreads import dealt, is_spread, line_of, numbers_with, spread_cut, spread_of
from pagesworn.webs import web_of
from pagesworn.wishes import behind_wish, first_house

GREAT = 10 ** 30 - 1

# Process 1 shows cell 3 twice; cell 5 is read, cell 7 is process 1's alone; its page 5 is in common, its page 6 in zeros.
HOUSE = (4, 4, ((None, None), (0, 5)), (6, 2),
         ((1, 1, 8, (((0, 1), 1), ((0, 1, 2, 3, 5, 6), 3), ((4,), 0))), (4, 0, 3, (((0, 1, 2), 2),))), ((0, 2, ()),),
         ((3, "own", ((1, 0), (1, 1), (4, 0)), ()), (5, "own", ((1, 2), (4, 1)), ((0, 0),)), (6, "own", (), ((0, 1),)),
          (7, "own", ((1, 3),), ()), (8, "common", ((1, 5), (4, 2)), ())), ((1, 4), (1, 6)))


def size(numbers, cut):
    return sum(row[index] for row, part in zip(numbers, cut) for index in part)


def houses(seed, many):
    rng = random.Random(seed)
    return [house for house in [HOUSE] + [samples.any_house(rng) for _ in range(many)] if house[4]]


def cases(seed, many):
    """Houses, each with one of its processes."""
    rng = random.Random(seed + 1)
    return [(house, rng.choice(house[4])[0]) for house in houses(seed, many)]


def smaller(rng, spread):
    """A spread that is no greatest one, or the same."""
    return tuple(rng.choice((0, count, count // 2, max(0, count - 1))) for count in spread)


class Numbers(unittest.TestCase):
    def test_a_house(self):
        self.assertTrue(is_house(HOUSE))
        self.assertEqual(numbers_with(HOUSE, 1, 1), ((1, 3, 0, 2), (1,) * 8, (2, 2, 0, 0, 0)))
        self.assertEqual(numbers_with(HOUSE, 1, 4), ((4, 12, 0, 2), (4, 4, 4, 4, 4, 4, 1, 1), (8, 5, 0, 3, 0)))
        self.assertEqual(numbers_with(HOUSE, 4, 4), ((1, 3, 0, 8), (1,) * 6 + (4, 4), (5, 5, 0, 0, 0)))
        self.assertEqual(numbers_with(HOUSE, 1, GREAT)[2], (2 * GREAT, GREAT + 1, 0, GREAT - 1, 0))

    def test_against_the_house_with_the_process_so_often(self):
        seen = {}
        for house, process in cases(100, 500):
            for many in (1, 2, 3):
                wide = slow.many_times(house, process, many)
                self.assertTrue(is_house(wide))
                numbers = numbers_with(house, process, many)
                self.assertEqual(numbers, slow.numbers_with(house, process, many))
                self.assertEqual(numbers[2], web_of(wide)[2])
                self.assertEqual([sum(numbers[0]), sum(numbers[1])],
                                 [sum(row[2] for row in web_of(wide)[0]), len(web_of(wide)[1])])
            for cell in house[6]:
                own = len([place for place in cell[2] if place[0] == process])
                seen[min(own, 2), cell[1], cell[3] != (), len(cell[2]) > own] = True
            self.assertEqual(numbers_with(house, process, 1)[2], web_of(house)[2])
        for own in (0, 1, 2):
            self.assertTrue({(own, "own", True, True), (own, "own", False, True), (own, "common", False, True)} <= set(seen))
        self.assertTrue({(1, "own", False, False), (2, "own", False, False), (2, "own", True, False)} <= set(seen))


class IsSpread(unittest.TestCase):
    def test_spreads_and_such_with_one_number_changed(self):
        rng = random.Random(101)
        for house, process in cases(102, 150):
            for many in (1, 2, 3):
                spread = spread_of(house, process, many)
                for thing in (spread, smaller(rng, spread)):
                    self.assertIs(is_spread(house, process, many, thing), True)
                    near = [thing[:index] + (count + more,) + thing[index + 1:] for index, count in enumerate(thing)
                            for more in (1, -1, many)]
                    near += [thing + (0,), thing[:-1], list(thing), thing + thing[-1:]]
                    samples.agreed(self, is_spread, slow.is_spread, (house, process, many), near)
                    self.assertFalse(is_spread(house, process, many, thing + (0,)))
                    self.assertFalse(is_spread(house, process, many, list(thing)))

    def test_each_number_bars(self):
        """One too many for a place, for a ticket, for one around it, for a cell."""
        self.assertEqual([row[0] for row in web_of(HOUSE)[1]], [(1, 0), (1, 1), (1, 2), (1, 3), (1, 4), (1, 6), (4, 0), (4, 1)])
        told = {(0, 0, 0, 0, 0, 2, 0, 0): True, (0, 0, 0, 0, 0, 3, 0, 0): False, (1, 1, 0, 0, 0, 0, 0, 0): True,
                (2, 1, 0, 0, 0, 0, 0, 0): False, (2, 0, 2, 0, 0, 2, 0, 0): True, (2, 0, 2, 1, 0, 2, 0, 0): False,
                (2, 0, 0, 0, 0, 0, 1, 1): True, (2, 0, 0, 0, 0, 0, 2, 0): False, (0, 0, 0, 1, 0, 0, 0, 0): True,
                (0, 0, 0, 2, 0, 0, 0, 0): False, (0, 0, 0, 0, 1, 0, 0, 0): False, (0, 0, 0, 0, -1, 0, 0, 0): False}
        for thing, truth in told.items():
            self.assertIs(is_spread(HOUSE, 1, 2, thing), truth, thing)
            self.assertIs(slow.is_spread(HOUSE, 1, 2, thing), truth, thing)

    def test_any_values(self):
        spread = spread_of(HOUSE, 1, 2)
        things = samples.changed(spread) + [tuple(bool(count) for count in spread), (True,) * 8, (False,) * 8]
        answers = samples.agreed(self, is_spread, slow.is_spread, (HOUSE, 1, 2), things)
        self.assertIn(True, answers)
        self.assertIs(is_spread(HOUSE, 1, 2, (0, 0, 0, 0, 0, 1, 0, 0)), True)
        self.assertIs(is_spread(HOUSE, 1, 2, (0, 0, 0, 0, 0, True, 0, 0)), False)
        self.assertIs(is_spread(HOUSE, 1, 2, (0, 0, 0, 0, False, 1, 0, 0)), False)
        bare = behind_wish(first_house(2, 0), ("begin", 0, 1, ()))
        answers = samples.agreed(self, is_spread, slow.is_spread, (bare, 0, 1), samples.odd_values())
        self.assertEqual(answers.count(True), 1)


class Spreads(unittest.TestCase):
    def hold(self, house, process, many):
        """A spread, and a cut whose numbers are its sum: so both are right."""
        spread, cut = spread_of(house, process, many), spread_cut(house, process, many)
        self.assertTrue(slow.is_spread(house, process, many, spread) if many < 9 else is_spread(house, process, many, spread))
        self.assertTrue(slow.is_cut(web_of(house), cut) and is_cut(web_of(house), cut))
        self.assertEqual(size(numbers_with(house, process, many), cut), sum(spread))
        return spread

    def test_against_the_flow_of_the_house_with_the_process_so_often(self):
        for house, process in cases(103, 400):
            for many in (1, 2, 3, 5):
                spread = self.hold(house, process, many)
                self.assertEqual(sum(spread), flow_many(web_of(slow.many_times(house, process, many))))
            self.assertEqual(sum(spread_of(house, process, 1)), flow_many(web_of(house)))

    def test_where_others_have_to_give_way(self):
        """Nested tickets and shared cells, in which a spread is widened often, over several places that take less."""
        rng = random.Random(114)
        for at in range(250):
            house = samples.knotted_house(rng, rng.randint(2, 5), 12 if at % 5 else 40)
            for row in house[4][:3]:
                for many in (1, 2, 3, 50, GREAT):
                    spread = self.hold(house, row[0], many)
                    if many < 4:
                        self.assertEqual(sum(spread), flow_many(web_of(slow.many_times(house, row[0], many))))
        # For each of these pairs of pages the first one is given up, so that the other process can copy it.
        lots = tuple(((2 * at, 2 * at + 1), 1) for at in range(20))
        rows = ((0, 0, 40, lots), (1, 0, 20, tuple(((at,), 1) for at in range(20))))
        cells = tuple((at, "own", ((0, 2 * at), (1, at)), ()) for at in range(20))
        house = (9, 9, ((None, None),), (2, 0), rows, (), cells, tuple((0, 2 * at + 1) for at in range(20)))
        self.assertTrue(is_house(house))
        self.assertEqual([sum(self.hold(house, process, many)) for process in (0, 1) for many in (1, 2, 5)], [40, 60, 120, 40, 60, 120])

    def test_against_going_through_all(self):
        rng = random.Random(104)
        held = 0
        while held < 60:
            house = samples.small_house(rng)
            for row in house[4]:
                for many in (1, 2, 3):
                    if 2 <= len(web_of(house)[1]) <= 5:
                        held += 1
                        self.assertEqual(sum(self.hold(house, row[0], many)), slow.greatest_sum(house, row[0], many))

    def test_great_numbers(self):
        """Nothing is gone through one by one."""
        rng = random.Random(105)
        for house, process in cases(106, 200):
            for many in (10 ** 9, GREAT, rng.randint(1, GREAT)):
                with samples.moments(self):
                    self.hold(house, process, many)
        lots = (((0, 1), 10 ** 9 - 1), ((0, 1, 2), 3))
        house = behind_wish(first_house(9, 9), ("begin", 0, 4, lots))
        self.assertEqual(spread_of(house, 0, GREAT), (GREAT, GREAT, GREAT))
        house = behind_wish(first_house(9, 9), ("begin", 0, 4, (((0, 1, 2, 3), 2), ((2,), 10 ** 9 - 1))))
        self.assertEqual([sum(spread_of(house, 0, GREAT)), spread_cut(house, 0, GREAT)], [2 * GREAT, ((0,), (), ())])

    def test_equal_for_equal_arguments(self):
        for house, process in cases(107, 30):
            first = [spread_of(house, process, 3), spread_cut(house, process, 3)]
            spread_of(HOUSE, 4, 7)
            self.assertEqual([spread_of(house, process, 3), spread_cut(house, process, 3)], first)


class Lines(unittest.TestCase):
    def test_lines_of_cuts(self):
        rng = random.Random(108)
        steps = {}
        for house, process in cases(109, 300):
            web = web_of(house)
            cuts = [spread_cut(house, process, many) for many in (1, 2, 7, GREAT)] + [least_cut(web)]
            cuts += [tuple(tuple(range(len(part))) for part in web), ((), tuple(range(len(web[1]))), ())]
            cuts += [tuple(tuple(sorted(set(part) | set(rng.sample(range(len(rows)), len(rows) // 2))))
                           for part, rows in zip(cut, web)) for cut in cuts]
            for cut in cuts:
                self.assertTrue(is_cut(web, cut))
                start, step = line_of(house, process, cut)
                steps[step > 0, start > 0] = True
                for many in (1, 2, 3, 10, 10 ** 29):
                    self.assertEqual(start + step * many, size(numbers_with(house, process, many), cut))
                    self.assertGreaterEqual(start + step * many, sum(spread_of(house, process, many)))
        self.assertEqual(len(steps), 4)

    def test_a_start_below_zero(self):
        """Of a cell that a process shows alone there is one copy less than processes."""
        house = (4, 0, ((None, None),), (1, 0), ((0, 0, 1, (((0,), 1),)),), (), ((7, "own", ((0, 0),), ()),), ())
        self.assertEqual([line_of(house, 0, ((), (), (0,))), line_of(house, 0, ((0,), (), ()))], [(-1, 1), (0, 1)])
        self.assertEqual([sum(spread_of(house, 0, many)) for many in (1, 2, 9)], [0, 1, 8])


class Dealt(unittest.TestCase):
    def test_each_page_as_often_and_each_ticket_kept(self):
        rng = random.Random(110)
        seen = {}
        for house, process in cases(111, 250):
            for many in (1, 2, 3, 7, 100):
                greatest = spread_of(house, process, many)
                for spread in (greatest, smaller(rng, greatest), (0,) * len(greatest)):
                    lots = dealt(house, process, many, spread)
                    self.assertTrue(slow.is_dealt(house, process, many, spread, lots), (house, process, many, spread))
                    seen[many, len(set(lots)) > 1] = True
        self.assertTrue({(2, True), (3, True), (7, True), (100, True), (1, False)} <= set(seen))

    def test_nested_tickets(self):
        """Forests of ten tickets, with spreads that fill them wholly or in part."""
        rng = random.Random(112)
        for _ in range(60):
            forest = samples.ten_tickets(rng, range(rng.randint(10, 40)), rng.choice((2, 4, 9)))
            house = behind_wish(first_house(9, 9), ("begin", 0, 45, forest))
            for many in (1, 2, 5, rng.randint(1, 100), 100):
                spread = spread_of(house, 0, many)
                for some in (spread, smaller(rng, spread), smaller(rng, spread)):
                    self.assertTrue(slow.is_dealt(house, 0, many, some, dealt(house, 0, many, some)))

    def test_lots_are_new(self):
        house = behind_wish(first_house(9, 9), ("begin", 0, 2, (((0, 1), 1),)))
        lots = dealt(house, 0, 3, (2, 1))
        self.assertEqual(sorted(lots), [(0,), (0,), (1,)])
        lots.clear()
        self.assertEqual(sorted(dealt(house, 0, 3, (2, 1))), [(0,), (0,), (1,)])
        self.assertEqual(dealt(house, 0, 2, (0, 0)), [(), ()])


class Errors(unittest.TestCase):
    def test_no_process(self):
        web = web_of(HOUSE)
        calls = [(numbers_with, (2,)), (is_spread, (2, (0,) * 8)), (is_spread, (2, None)), (spread_of, (1,)), (spread_cut, (GREAT,)),
                 (line_of, (least_cut(web),)), (dealt, (2, (0,) * 8))]
        for process in (0, 2, 5, 6, 10 ** 39):
            for function, others in calls:
                with self.subTest(function=function.__name__), self.assertRaises(NoProcess) as caught:
                    function(HOUSE, process, *others)
                self.assertEqual(vars(caught.exception), {"process": process})


class GreatHouses(unittest.TestCase):
    def test_each_call_ends_within_moments(self):
        rng = random.Random(113)
        for house in samples.great_houses(rng):
            for process in {house[4][0][0], rng.choice(house[4])[0]}:
                web = web_of(house)
                for many in (1, 2, 60, GREAT):
                    with samples.moments(self):
                        numbers = numbers_with(house, process, many)
                        spread, cut = spread_of(house, process, many), spread_cut(house, process, many)
                        self.assertTrue(is_spread(house, process, many, spread))
                        start, step = line_of(house, process, cut)
                    self.assertEqual([size(numbers, cut), start + step * many], [sum(spread)] * 2)
                    self.assertTrue(is_cut(web, cut))
                    if many <= 100:
                        with samples.moments(self):
                            lots = dealt(house, process, many, spread)
                        self.assertTrue(slow.is_dealt(house, process, many, spread, lots))
                self.assertEqual(sum(spread_of(house, process, 1)), flow_many(web))
                self.assertEqual(sum(spread_of(house, process, 3)), flow_many(web_of(slow.many_times(house, process, 3))))
                self.assertGreater(len(process_of(house, process)[2]), 5)
