"""[29], with the guarantee [10]: any number of equal forks."""

import random
import unittest

import samples
from pagesworn.children import costs_of_children, most_children, need_with, stopped_by
from pagesworn.errors import NoGroup, NoProcess
from pagesworn.grants import is_granted
from pagesworn.inside import first_broken, group_needs, is_kept
from pagesworn.need import need
from pagesworn.wishes import behind_wish, first_house

GREAT = 10 ** 30 - 1
NINE = 10 ** 9 - 1


def behind_forks(house, wish, many):
    for _ in range(many):
        house = behind_wish(house, wish)
    return house


def some_fork(rng, house):
    """What a fork names that is there, and a forest: that of the parent, none, or any."""
    row = rng.choice(house[4])
    pages = range(max(1, row[2]))
    forests = [(), row[3], samples.random_forest(rng, pages, 4, 2), samples.random_forest(rng, pages, 4, 3), ((tuple(pages), 1),)]
    return (row[0], rng.choice((row[1], rng.randrange(len(house[2])))), rng.choice(forests))


def cases(seed, many):
    rng = random.Random(seed)
    found = [samples.any_house(rng) for _ in range(many)]
    return [(house,) + some_fork(rng, house) for house in found if house[4]]


def falling_house(sizes):
    """A house in which each further child costs less, for a while, and the forest of such a child.

    For each number there are so many cells, shown by the parent and another process that would copy all of them.
    A child may copy one cell less than there are: so each brings one copy more of the others, until they have all.
    """
    tickets, children, first = [], [], 0
    for many in sizes:
        lot = tuple(range(first, first + many))
        tickets.append((lot, many))
        children.append((lot, many - 1))
        first += many
    rows = tuple((process, 0, first, tuple(tickets)) for process in (0, 1))
    cells = tuple((page, "own", ((0, page), (1, page)), ()) for page in range(first))
    return (NINE, 0, ((None, None),), (2, 0), rows, (), cells, ()), tuple(children)


def crossed_house(rng, pages):
    """A house whose parent shares most cells with one or two others, and a forest that lets a child copy most of them."""
    many = rng.randint(2, 3)

    def some_lots():
        return {lot for lot, _ in samples.random_forest(rng, range(pages), 8, 0)}

    child = tuple((lot, max(0, len(lot) - rng.choice((0, 1, 1, 1, 2)))) for lot in sorted(some_lots() or {tuple(range(pages))}))
    rows = tuple((process, 0, pages, tuple((lot, max(0, len(lot) - rng.choice((0, 0, 0, 1, 3))))
                                           for lot in sorted(some_lots() | {tuple(range(pages))}))) for process in range(many))
    cells, zeros = [], []
    for page in range(pages):
        held = tuple((process, page) for process in range(many))
        if rng.random() < 0.9:
            cells.append((page, "own", held[:rng.choice((2, many))], ()))
        else:
            zeros += held
    return (NINE, 0, ((None, None),), (many, 0), rows, (), tuple(sorted(cells)), tuple(sorted(zeros))), child


def kept_house(rng, house):
    """The house with capacity and rooms of which it needs all but a few, or none at all."""
    needs, groups = need(house), group_needs(house)
    rooms = [None] + [rng.choice([None, many, many + 1, many + 2, many + 3, many + 5, NINE]) for many in groups[1:]]
    frames = max(2, needs) + rng.choice((0, 1, 2, 3, 5, 8, 13, NINE - needs))
    return (frames, rng.choice((0, 0, 1)), tuple(zip([row[0] for row in house[2]], rooms))) + house[3:]


def granted_many(house, wish, most):
    """How many of these wishes are granted one behind the other, and the house behind them; None if more than most."""
    many = 0
    while is_granted(house, wish):
        if many == most:
            return None, house
        house = behind_wish(house, wish)
        many += 1
    return many, house


class NeedWith(unittest.TestCase):
    def test_against_the_house_with_so_many(self):
        """[10]; where the fork is refused, too."""
        granted = set()
        for house, process, group, forest in cases(120, 350):
            wish = ("fork", process, group, forest)
            granted.add(is_granted(house, wish))
            for many in (0, 1, 2, 3, 5):
                self.assertEqual(need_with(house, process, group, forest, many), need(behind_forks(house, wish, many)))
        self.assertEqual(granted, {True, False})

    def test_many_of_thirty_digits(self):
        for house, process, group, forest in cases(121, 200):
            needs = [need_with(house, process, group, forest, many) for many in (500, 501, 600)]
            step = needs[1] - needs[0]
            self.assertEqual(needs[2], needs[0] + 100 * step)
            with samples.moments(self):
                for many in (10 ** 9, 10 ** 29, GREAT):
                    self.assertEqual(need_with(house, process, group, forest, many), needs[0] + (many - 500) * step)

    def test_the_group_means_nothing(self):
        for house, process, group, forest in cases(122, 50):
            self.assertEqual(need_with(house, process, group, forest, 3), need_with(house, process, 0, forest, 3))


class Costs(unittest.TestCase):
    def hold(self, house, process, group, forest, beyond):
        """The costs, against the differences of need one by one."""
        costs = costs_of_children(house, process, group, forest)
        self.assertIs(type(costs), list)
        self.assertEqual(costs[0][0], 0)
        self.assertEqual(costs, sorted(costs))
        for one, other in zip(costs, costs[1:]):
            self.assertTrue(one[0] < other[0] and one[1] > other[1])
        needs = [need_with(house, process, group, forest, many) for many in range(costs[-1][0] + beyond + 1)]
        told = [[cost for first, cost in costs if first <= many][-1] for many in range(len(needs) - 1)]
        self.assertEqual([later - ahead for ahead, later in zip(needs, needs[1:])], told)
        # Behind the last one there is none, however great the numbers are.
        for many in (300, 10 ** 9, GREAT - 1):
            ahead, later = [need_with(house, process, group, forest, number) for number in (many, many + 1)]
            self.assertEqual(later - ahead, costs[-1][1])
        return costs

    def test_against_differences_one_by_one(self):
        seen = set()
        for house, process, group, forest in cases(123, 400):
            seen.add(len(self.hold(house, process, group, forest, 6)))
        self.assertTrue({1, 2} <= seen, seen)

    def test_several_costs(self):
        self.assertEqual(self.hold(*falling((2, 3)), 9), [(0, 5), (2, 4), (3, 3)])
        self.assertEqual(self.hold(*falling((4,)), 9), [(0, 4), (4, 3)])
        costs = self.hold(*falling((2, 3, 5, 8, 13, 21)), 9)
        self.assertEqual(costs, [(0, 52), (2, 51), (3, 50), (5, 49), (8, 48), (13, 47), (21, 46)])
        rng = random.Random(124)
        for _ in range(12):
            costs = self.hold(*falling(rng.sample(range(2, 14), rng.randint(1, 5))), 5)
            self.assertGreater(len(costs), 1)

    def test_a_cost_that_comes_once(self):
        """Lines cross between two numbers of children: so one child has a cost between theirs."""
        seen = set()
        rng = random.Random(125)
        for _ in range(300):
            sizes = rng.sample(range(2, 9), 2)
            house, forest = falling_house(sizes)
            forest = tuple((lot, max(0, number - rng.randint(0, 2))) for lot, number in forest)
            costs = self.hold(house, 0, 0, forest, 3)
            seen |= {one[0] + 1 == other[0] for one, other in zip(costs, costs[1:])}
        self.assertEqual(seen, {True, False})

    def test_where_others_have_to_give_way(self):
        """Nested tickets and cells that several places share, so that lines of many cuts cross."""
        rng = random.Random(131)
        seen = set()
        for _ in range(150):
            house, forest = crossed_house(rng, rng.randint(3, 25))
            seen.add(len(self.hold(house, 0, 0, forest, 4)))
            for number in (1, 2, 4):
                self.assertEqual(need_with(house, 0, 0, forest, number), need(behind_forks(house, ("fork", 0, 0, forest), number)))
            house = samples.knotted_house(rng, rng.randint(2, 4), 15)
            process, _, _, forest = rng.choice(house[4])
            seen.add(len(self.hold(house, process, 0, forest, 3)))
        self.assertTrue({1, 2, 3, 4} <= seen, seen)

    def test_it_is_new(self):
        house, forest = falling_house((2, 3))
        costs = costs_of_children(house, 0, 0, forest)
        costs.clear()
        self.assertEqual(costs_of_children(house, 0, 0, forest), [(0, 5), (2, 4), (3, 3)])


def falling(sizes):
    house, forest = falling_house(sizes)
    return house, 0, 0, forest


class Most(unittest.TestCase):
    def hold(self, house, process, group, forest, reach):
        """Against granting these wishes one behind the other until one is refused, if they are not too many."""
        self.assertTrue(is_kept(house))
        most, stop = most_children(house, process, group, forest), stopped_by(house, process, group, forest)
        many, last = granted_many(house, ("fork", process, group, forest), reach)
        if many is None:
            self.assertTrue(most is None or most > reach)
        else:
            self.assertEqual(most, many)
            self.assertEqual(stop, first_broken(behind_wish(last, ("fork", process, group, forest))))
        self.assertEqual(most is None, stop is None)
        return most, stop

    def test_against_granting_until_one_is_refused(self):
        rng = random.Random(126)
        seen = set()
        for house, process, group, forest in cases(127, 600):
            house = kept_house(rng, house)
            most, stop = self.hold(house, process, group, forest, 25)
            seen.add(("none" if most is None else min(most, 4), stop if stop is None or stop == "capacity" else "group"))
        for many in range(5):
            self.assertTrue({(many, "capacity"), (many, "group")} <= seen, many)
        self.assertIn(("none", None), seen)

    def test_just_as_needed_one_less_and_one_more(self):
        """Of capacity, or of the room of one group within another, after so many children."""
        rng = random.Random(128)
        seen = set()
        for house, process, group, forest in cases(129, 150):
            for many in (0, 1, 2, 4):
                last = behind_forks(house, ("fork", process, group, forest), many)
                needs, groups = need(last), group_needs(last)
                at = rng.choice([None] + list(range(1, len(groups))))
                for more in (-1, 0, 1):
                    rooms = [None] + [number + more if group_at == at else None for group_at, number in list(enumerate(groups))[1:]]
                    frames = needs + more if at is None else NINE
                    near = (frames, 0, tuple(zip([row[0] for row in house[2]], rooms))) + house[3:]
                    if frames >= 2 and (at is None or rooms[at] >= 0) and is_kept(near):
                        most, stop = self.hold(near, process, group, forest, 9)
                        self.assertTrue(most is None or stop == ("capacity" if at is None else at) or most > 10 ** 6)
                        seen.add((at is None, more, most is not None and most - many))
        for more, answer in ((-1, -1), (0, 0), (1, 0), (1, 1)):
            self.assertTrue({(True, more, answer), (False, more, answer)} <= seen, (more, answer))

    def test_which_limit_is_first(self):
        """Group 2 is within 1; the child is in it, but the parent is in none of them."""
        groups = ((None, None), (0, 6), (1, 4), (0, 0))
        house = (12, 0, groups, (1, 0), ((0, 0, 2, (((0, 1), 2),)),), (), ((3, "own", ((0, 0),), ()), (4, "own", ((0, 1),), ())), ())
        lot = (((0, 1), 1),)
        self.assertEqual([most_children(house, 0, group, lot) for group in (0, 1, 2)], [8, 4, 2])
        self.assertEqual([stopped_by(house, 0, group, lot) for group in (0, 1, 2)], ["capacity", 1, 2])
        self.assertEqual([most_children(house, 0, 3, lot), stopped_by(house, 0, 3, lot)], [0, 3])
        wide = (10 ** 9, 0, ((None, None), (0, 4), (1, 4), (0, 0))) + house[3:]
        self.assertEqual([most_children(wide, 0, 2, lot), stopped_by(wide, 0, 2, lot)], [2, 1])
        both = (6, 0, ((None, None), (0, 4), (1, 4), (0, 0))) + house[3:]
        self.assertEqual([most_children(both, 0, 2, lot), stopped_by(both, 0, 2, lot)], [2, "capacity"])
        for group in range(4):
            for near in (house, wide, both):
                self.hold(near, 0, group, lot, 12)

    def test_nothing_bars(self):
        """Children that copy nothing, once what others may copy is all free; groups in which they are not."""
        house = (3, 0, ((None, None), (0, 0)), (1, 0), ((0, 0, 1, (((0,), 1),)),), (), ((7, "own", ((0, 0),), ()),), ())
        self.assertEqual([most_children(house, 0, 0, ()), stopped_by(house, 0, 0, ())], [None, None])
        self.assertEqual([most_children(house, 0, 1, ()), stopped_by(house, 0, 1, ())], [0, 1])
        self.assertEqual([most_children(house, 0, 0, (((0,), 0), ((5,), 9))), most_children(house, 0, 0, (((0,), 1),))], [None, 2])
        self.assertEqual(most_children((2, 0) + house[2:], 0, 0, ()), None)
        lone = (2, 0, ((None, None), (0, 1)), (1, 0), ((0, 0, 1, ()),), (), ((7, "own", ((0, 0),), ()),), ())
        self.assertEqual([most_children(lone, 0, 1, ()), stopped_by(lone, 0, 1, ())], [None, None])
        empty = behind_wish(first_house(2, 0), ("begin", 0, 0, ()))
        self.assertEqual([most_children(empty, 0, 0, (((0,), 3),)), costs_of_children(empty, 0, 0, ())], [None, [(0, 0)]])

    def test_numbers_of_nine_digits(self):
        house = behind_wish(first_house(NINE, NINE), ("begin", 0, 30, ((tuple(range(30)), NINE),)))
        with samples.moments(self):
            self.assertEqual(need(house), 30)
            self.assertEqual([most_children(house, 0, 0, (((0, 1), 1),)), most_children(house, 0, 0, (((0, 1), NINE),))],
                             [2 * NINE - 30, (2 * NINE - 30) // 2])
            self.assertEqual(most_children(house, 0, 0, (((0, 1, 2, 3, 4, 5, 6), NINE),)), (2 * NINE - 30) // 7)
            self.assertEqual(stopped_by(house, 0, 0, (((0, 1), 1),)), "capacity")
            wide = behind_wish(house, ("group", 0, NINE))
            self.assertEqual([most_children(wide, 0, 1, (((0, 1), 1),)), stopped_by(wide, 0, 1, (((0, 1), 1),))], [NINE, 1])
            self.assertEqual(most_children((10 ** 40, 0) + house[2:], 0, 0, (((3,), 1),)), 10 ** 40 - 30)
            self.assertEqual(costs_of_children(house, 0, 0, (((0, 1), 1), ((5,), NINE))), [(0, 2)])

    def test_costs_that_fall_on_the_way(self):
        house, forest = falling_house((2, 3, 5, 8))
        for more in list(range(0, 60)) + [10 ** 8]:
            near = (need(house) + more, 0) + house[2:]
            most = most_children(near, 0, 0, forest)
            self.assertLessEqual(need_with(near, 0, 0, forest, most), near[0])
            self.assertGreater(need_with(near, 0, 0, forest, most + 1), near[0])


class Errors(unittest.TestCase):
    HOUSE = behind_wish(behind_wish(first_house(9, 0), ("group", 0, 5)), ("begin", 0, 2, (((0, 1), 1),)))
    CALLS = ((need_with, (0,)), (need_with, (1,)), (need_with, (GREAT,)), (costs_of_children, ()), (most_children, ()), (stopped_by, ()))

    def raises(self, error, fields, process, group):
        for function, others in self.CALLS:
            with self.subTest(function=function.__name__), self.assertRaises(error) as caught:
                function(self.HOUSE, process, group, (((0,), 1),), *others)
            self.assertEqual(vars(caught.exception), fields)

    def test_processes_then_groups(self):
        for number in (2, 10 ** 39):
            self.raises(NoGroup, {"group": number}, 0, number)
            self.raises(NoProcess, {"process": number}, number, 1)
            self.raises(NoProcess, {"process": number}, number, number + 1)
        self.assertEqual(need_with(self.HOUSE, 0, 1, (((0,), 1),), 1), 2)


class GreatHouses(unittest.TestCase):
    def test_each_call_ends_within_moments(self):
        rng = random.Random(130)
        for house in samples.great_houses(rng):
            house = kept_house(rng, house)
            for forest in (house[4][0][3], samples.ten_tickets(rng, range(12), 4), ((tuple(range(40)), 6),), ()):
                process, group = rng.choice(house[4])[0], rng.randrange(6)
                with samples.moments(self):
                    costs = costs_of_children(house, process, group, forest)
                    needs = [need_with(house, process, group, forest, many) for many in (0, 1, 2, GREAT)]
                    most, stop = most_children(house, process, group, forest), stopped_by(house, process, group, forest)
                self.assertEqual([needs[0], needs[1]], [need(house), need(behind_forks(house, ("fork", process, group, forest), 1))])
                self.assertEqual(needs[2] - needs[1], [cost for first, cost in costs if first <= 1][-1])
                total = sum(cost * (min(GREAT, after) - first) for (first, cost), after in zip(costs, [row[0] for row in costs[1:]] + [GREAT]))
                self.assertEqual(needs[3], needs[0] + total)
                many, last = granted_many(house, ("fork", process, group, forest), 4)
                self.assertTrue(most == many if many is not None else most is None or most > 4)
                if many is not None:
                    self.assertEqual(stop, first_broken(behind_wish(last, ("fork", process, group, forest))))
