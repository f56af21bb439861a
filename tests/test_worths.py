"""[27], with the guarantee [10]: worths."""

import random
import unittest

import samples
import slow
from pagesworn.deeds import behind_deed
from pagesworn.errors import NoGroup, NoProcess, NoTicket
from pagesworn.forests import lessened
from pagesworn.forms import is_house, process_of
from pagesworn.grants import is_granted
from pagesworn.inside import group_need, group_needs, is_kept, is_within
from pagesworn.need import need
from pagesworn.wishes import behind_wish, first_house
from pagesworn.worths import deeds_that_help, gives_back, idle, idle_part, most_raise, who_can_give, worth_of, worth_within

GREAT = 10 ** 9 - 1


def with_number(house, process, lot, number):
    """The house in which a ticket has this number, greater or less."""
    rows = []
    for row in house[4]:
        forest = tuple((pages, number) if pages == lot and row[0] == process else (pages, many) for pages, many in row[3])
        rows.append(row[:3] + (forest,))
    return house[:4] + (tuple(rows),) + house[5:]


def all_tickets(house):
    return [(row[0], lot, number) for row in house[4] for lot, number in row[3]]


def kept_house(rng, house):
    """The house with capacity and rooms of which it needs all but a few, or none at all."""
    needs, groups = need(house), group_needs(house)
    rooms = [None] + [rng.choice([None, many, many, many + 1, many + 3, GREAT]) for many in groups[1:]]
    frames = max(2, needs) + rng.choice((0, 0, 1, 2, 3, GREAT - needs))
    return (frames, rng.choice((0, 0, 1)), tuple(zip([row[0] for row in house[2]], rooms))) + house[3:]


class Worths(unittest.TestCase):
    def test_against_need_itself(self):
        """[10]: as a ticket is raised, need rises by as much up to its worth, and no further."""
        rng = random.Random(90)
        seen = {}
        for _ in range(200):
            house = samples.any_house(rng)
            for process, lot, number in all_tickets(house):
                worth = worth_of(house, process, lot)
                seen[worth] = True
                for more in list(range(worth + 3)) + [GREAT, 10 ** 30]:
                    raised = with_number(house, process, lot, number + more)
                    self.assertEqual(need(raised), need(house) + min(more, worth))
                self.assertEqual(worth_of(house, process, lot), worth)
        self.assertTrue({0, 1, 2, 3} <= set(seen))

    def test_against_the_need_of_groups(self):
        rng = random.Random(91)
        seen = {}
        for _ in range(150):
            house = samples.any_house(rng)
            for process, lot, number in all_tickets(house):
                for group in range(len(house[2])):
                    worth = worth_within(house, group, process, lot)
                    within = is_within(house, process_of(house, process)[0], group)
                    seen[within, worth > 0, worth == worth_of(house, process, lot)] = True
                    for more in range(worth + 3):
                        raised = with_number(house, process, lot, number + more)
                        self.assertEqual(group_need(raised, group), group_need(house, group) + min(more, worth))
        for kind in ((True, True, True), (True, True, False), (True, False, False), (False, False, False), (False, False, True)):
            self.assertIn(kind, seen)
        self.assertNotIn((False, True, True), seen)

    def test_against_a_flow_of_its_own(self):
        """Where so few places are that all flows can be gone through."""
        rng = random.Random(92)
        for _ in range(120):
            house = samples.small_house(rng)
            for process, lot, number in all_tickets(house):
                raised = with_number(house, process, lot, number + 50)
                lowered = with_number(house, process, lot, 0)
                self.assertEqual(worth_of(house, process, lot), slow.need(raised) - slow.need(house))
                self.assertEqual(idle_part(house, process, lot), number - slow.need(house) + slow.need(lowered))

    def test_numbers_of_nine_digits(self):
        house = behind_wish(first_house(GREAT, GREAT), ("begin", 0, 30, (((0, 1), GREAT), (tuple(range(40)), 7))))
        self.assertEqual([need(house), worth_of(house, 0, (0, 1)), worth_of(house, 0, tuple(range(40)))], [7, 0, 23])
        self.assertEqual([idle_part(house, 0, (0, 1)), idle_part(house, 0, tuple(range(40)))], [GREAT, 0])
        wide = with_number(house, 0, tuple(range(40)), GREAT)
        self.assertEqual([worth_of(wide, 0, tuple(range(40))), idle_part(wide, 0, tuple(range(40))), idle_part(wide, 0, (0, 1))],
                         [0, GREAT - 30, GREAT - 2])
        self.assertEqual(idle(wide), [(0, (0, 1)), (0, tuple(range(40)))])


class MostRaise(unittest.TestCase):
    def raised(self, house, process, lot, more):
        forest = process_of(house, process)[2]
        number = dict(forest)[lot]
        return is_granted(house, ("raise", process, lessened(forest, lot, number + more)))

    def test_what_is_granted_and_what_is_not(self):
        rng = random.Random(93)
        seen = {}
        for _ in range(300):
            house = kept_house(rng, samples.any_house(rng))
            self.assertTrue(is_kept(house))
            for process, lot, _ in all_tickets(house):
                most = most_raise(house, process, lot)
                seen[most] = True
                if most is None:
                    self.assertTrue(all(self.raised(house, process, lot, more) for more in (0, 1, 2, 5, 150, GREAT, 10 ** 35)))
                else:
                    self.assertTrue(all(self.raised(house, process, lot, more) for more in range(most + 1)))
                    self.assertFalse(self.raised(house, process, lot, most + 1))
                    self.assertFalse(self.raised(house, process, lot, GREAT))
        self.assertTrue({None, 0, 1, 2} <= set(seen))

    def test_which_limit_bars(self):
        house = behind_wish(behind_wish(first_house(9, 0), ("group", 0, 5)), ("group", 1, 3))
        house = behind_wish(house, ("begin", 2, 12, (((0, 1, 2, 3, 4, 5, 6, 7), 1),)))
        lot = (0, 1, 2, 3, 4, 5, 6, 7)
        self.assertEqual(most_raise(house, 0, lot), 2)
        self.assertEqual(most_raise(behind_wish(house, ("room", 2, None)), 0, lot), 4)
        self.assertEqual(most_raise(behind_wish(house, ("move", 0, 1)), 0, lot), 4)
        self.assertEqual(most_raise(behind_wish(house, ("move", 0, 0)), 0, lot), None)
        self.assertEqual(most_raise(behind_wish(behind_wish(house, ("move", 0, 0)), ("frames", 8)), 0, lot), None)
        self.assertEqual(most_raise(behind_wish(behind_wish(house, ("move", 0, 0)), ("frames", 7)), 0, lot), 6)


class Idle(unittest.TestCase):
    def test_against_need_itself(self):
        rng = random.Random(94)
        seen = {}
        for _ in range(250):
            house = samples.any_house(rng)
            found = []
            for process, lot, number in all_tickets(house):
                part = idle_part(house, process, lot)
                self.assertTrue(0 <= part <= number)
                for less in range(number + 1):
                    behind = behind_deed(house, ("lessen", process, lot, number - less))[0]
                    self.assertEqual(need(behind), need(house) - max(0, less - part))
                seen[part, part == number] = True
                found += [(process, lot)] if part else []
            self.assertEqual(idle(house), found)
            self.assertEqual(found, sorted(found))
        self.assertTrue({(0, True), (0, False), (1, True), (1, False), (2, True)} <= set(seen))

    def test_it_is_new(self):
        house = behind_wish(first_house(2, 0), ("begin", 0, 1, (((0,), 5),)))
        found = idle(house)
        self.assertEqual(found, [(0, (0,))])
        found.clear()
        self.assertEqual([idle(house), idle(first_house(2, 0))], [[(0, (0,))], []])


class GivesBack(unittest.TestCase):
    def by_going_through(self, house, wish, process, lot, number):
        """The least n, each being tried."""
        for less in range(number + 1):
            if is_granted(behind_deed(house, ("lessen", process, lot, number - less))[0], wish):
                return less
        return None

    def hold(self, house, wish):
        given = []
        for process, lot, number in all_tickets(house):
            found = gives_back(house, wish, process, lot)
            self.assertEqual(found, self.by_going_through(house, wish, process, lot, number), (house, wish, process, lot))
            given += [(process, lot, found)] if found else []
        told = who_can_give(house, wish)
        self.assertEqual(told, given)
        self.assertEqual(told, sorted(told))
        return given

    def test_against_going_through(self):
        """Near the limits, of capacity or of a room, for wishes of all sorts."""
        rng = random.Random(95)
        seen = {}
        for at, house, wish in samples.cases_near_limits(rng, 250, 4):
            seen[wish[0], at is None, self.hold(house, wish) != []] = True
        for word in set(slow.STEPS) - set(slow.DEEDS) - {"group"}:
            self.assertIn((word, True, True), seen)
            self.assertTrue((word, False, True) in seen, word)

    def test_several_limits_at_once(self):
        rng = random.Random(96)
        seen = []
        for _ in range(300):
            house = samples.shared_house(rng)
            house = kept_house(rng, house)
            for wish, _ in samples.named_wishes(rng, house, 2):
                seen.append(len(self.hold(house, wish)))
        self.assertGreater(len(set(seen)), 2)

    def test_a_raise_of_the_same_process(self):
        house = behind_wish(first_house(3, 0), ("begin", 0, 4, (((0, 1, 2), 2),)))
        house = behind_wish(house, ("begin", 0, 4, (((0, 1, 2), 1),)))
        wish = ("raise", 0, (((0, 1, 2), 3),))
        self.assertEqual([gives_back(house, wish, 0, (0, 1, 2)), gives_back(house, wish, 1, (0, 1, 2))], [None, 1])
        self.assertEqual([who_can_give(house, wish), who_can_give(house, ("raise", 0, (((0, 1, 2), 2),)))], [[(1, (0, 1, 2), 1)], []])
        self.assertEqual(gives_back(house, ("raise", 0, (((0, 1, 2), 2),)), 0, (0, 1, 2)), 0)

    def test_numbers_of_nine_digits(self):
        """Nothing is gone through one by one."""
        house = behind_wish(first_house(30, 0), ("begin", 0, 30, ((tuple(range(30)), GREAT),)))
        lot = tuple(range(30))
        self.assertEqual(need(house), 30)
        with samples.moments(self):
            self.assertEqual(gives_back(house, ("frames", 30), 0, lot), 0)
            self.assertEqual(gives_back(house, ("frames", 29), 0, lot), GREAT - 29)
            self.assertEqual(gives_back(house, ("frames", 2), 0, lot), GREAT - 2)
            self.assertEqual(who_can_give(house, ("frames", 17)), [(0, lot, GREAT - 17)])
            self.assertEqual(gives_back(house, ("fork", 0, 0, ((lot, GREAT),)), 0, lot), GREAT)
            self.assertIsNone(gives_back((29,) + house[1:], ("fork", 0, 0, ((lot, GREAT),)), 0, lot))
            self.assertEqual(gives_back(house, ("fork", 0, 0, (((0, 1), GREAT),)), 0, lot), GREAT - 28)


class Helping(unittest.TestCase):
    def named(self, wish):
        words = {"more": ["exit"], "raise": ["exit"], "fork": ["exit"], "snapshot": ["exit"], "move": ["exit"]}
        if wish[0] == "common":
            return [("exit", process) for process in wish[1]]
        if wish[0] == "send":
            return [("exit", wish[1]), ("exit", wish[3])]
        if wish[0] == "back":
            return [("forget", wish[1]), ("exit", wish[2])]
        return [(word, wish[1]) for word in words.get(wish[0], [])]

    def hold(self, house, wish):
        deeds = [("exit", row[0]) for row in house[4]] + [("forget", row[0]) for row in house[5]]
        expected = [deed for deed in deeds if deed not in self.named(wish) and is_granted(behind_deed(house, deed)[0], wish)]
        found = deeds_that_help(house, wish)
        self.assertEqual(found, sorted(expected))
        found.append(None)
        self.assertEqual(deeds_that_help(house, wish), expected)
        return expected

    def test_against_going_through(self):
        rng = random.Random(97)
        seen = {}
        for _, house, wish in samples.cases_near_limits(rng, 300, 4):
            for deed in self.hold(house, wish):
                seen[wish[0], deed[0], is_granted(house, wish)] = True
        for word in set(slow.STEPS) - set(slow.DEEDS):
            self.assertIn((word, "exit", True), seen)
            self.assertIn((word, "forget", True), seen)
        self.assertTrue({("fork", "exit", False), ("frames", "exit", False), ("frames", "forget", False)} <= set(seen))

    def test_what_the_wish_names(self):
        house = behind_wish(first_house(99, 0), ("begin", 0, 1, ()))
        for wish in (("begin", 0, 1, ()), ("fork", 0, 0, ()), ("snapshot", 2), ("snapshot", 0)):
            house = behind_wish(house, wish)
        both = (0, 1)
        told = {
            ("more", 1, 1): ((0, 2), both), ("common", (0, 2), 1): ((1,), both), ("send", 0, 0, 1): ((2,), both),
            ("send", 0, 0, 0): ((1, 2), both), ("back", 1, 0): ((1, 2), (0,)), ("snapshot", 2): ((0, 1), both),
            ("move", 0, 0): ((1, 2), both), ("begin", 0, 1, ()): ((0, 1, 2), both), ("frames", 98): ((0, 1, 2), both),
            ("group", 0, 1): ((0, 1, 2), both), ("fork", 1, 0, ()): ((0, 2), both), ("raise", 2, ()): ((0, 1), both),
        }
        for wish, (exits, forgets) in told.items():
            expected = [("exit", number) for number in exits] + [("forget", number) for number in forgets]
            self.assertEqual(deeds_that_help(house, wish), expected)


class Errors(unittest.TestCase):
    HOUSE = behind_wish(behind_wish(first_house(9, 0), ("group", 0, 5)), ("begin", 0, 2, (((0, 1), 1),)))

    def raises(self, error, fields, function, *arguments):
        with self.subTest(function=function.__name__, arguments=arguments), self.assertRaises(error) as caught:
            function(self.HOUSE, *arguments)
        self.assertEqual(tuple(vars(caught.exception).values()), fields)

    def test_processes_and_tickets(self):
        self.assertTrue(is_house(self.HOUSE))
        for function in (worth_of, most_raise, idle_part):
            self.raises(NoProcess, (1,), function, 1, (7,))
            for lot in ((0,), (0, 1, 2), (7,), (1,)):
                self.raises(NoTicket, (0, lot), function, 0, lot)
        wish = ("slots", 0)
        self.raises(NoProcess, (3,), gives_back, wish, 3, (0, 1))
        self.raises(NoTicket, (0, (1,)), gives_back, wish, 0, (1,))
        self.raises(NoTicket, (0, (1,)), gives_back, ("raise", 0, (((1,), 3),)), 0, (1,))

    def test_groups_come_between(self):
        self.raises(NoProcess, (1,), worth_within, 9, 1, (7,))
        self.raises(NoGroup, (9,), worth_within, 9, 0, (7,))
        self.raises(NoTicket, (0, (7,)), worth_within, 1, 0, (7,))
        self.assertEqual([worth_within(self.HOUSE, 1, 0, (0, 1)), worth_within(self.HOUSE, 0, 0, (0, 1))], [0, 1])


class GreatHouses(unittest.TestCase):
    def test_each_call_ends_within_moments(self):
        rng = random.Random(98)
        for house in samples.great_houses(rng):
            house = kept_house(rng, house)
            for process, lot, number in rng.sample(all_tickets(house), 6):
                with samples.moments(self):
                    worth, part = worth_of(house, process, lot), idle_part(house, process, lot)
                    within = worth_within(house, process_of(house, process)[0], process, lot)
                    most = most_raise(house, process, lot)
                for more in (1, worth, worth + 1, 500):
                    self.assertEqual(need(with_number(house, process, lot, number + more)), need(house) + min(more, worth))
                for less in {0, part, min(part + 1, number), number}:
                    self.assertEqual(need(with_number(house, process, lot, number - less)), need(house) - max(0, less - part))
                self.assertLessEqual(within, 120)
                self.assertTrue(most is None or is_kept(with_number(house, process, lot, number + most)))
                self.assertFalse(most is not None and is_kept(with_number(house, process, lot, number + most + 1)))
            with samples.moments(self):
                found = idle(house)
            self.assertEqual(found, [(process, lot) for process, lot, _ in all_tickets(house) if idle_part(house, process, lot)])

    def test_what_helps_in_great_houses(self):
        rng = random.Random(99)
        for house in samples.great_houses(rng):
            for wish, behind in samples.named_wishes(rng, house, 3):
                for at, more in ((None, -1), (None, -4), (rng.randint(1, 5), -1)):
                    near = samples.near_limits(house, wish, need(behind), group_needs(behind), at, more)
                    if near is None:
                        continue
                    with samples.moments(self):
                        given = who_can_give(*near)
                        deeds_that_help(*near)
                    for process, lot, less in given[::7]:
                        self.assertEqual(gives_back(*near, process, lot), less)
                        number = dict(process_of(house, process)[2])[lot]
                        self.assertTrue(is_granted(with_number(near[0], process, lot, number - less), near[1]))
                        self.assertFalse(is_granted(with_number(near[0], process, lot, number - less + 1), near[1]))
