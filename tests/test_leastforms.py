"""[18], with the guarantee [9]: least forms."""

import random
import unittest
from itertools import product

import samples
import slow
from pagesworn.forests import lets_counts, tickets_with
from pagesworn.forms import is_forest
from pagesworn.leastforms import are_alike, is_least, is_stricter, least_form, parting_row, pressing_counts

PAGES = (0, 1, 2)


def by_rules(rng, forest):
    """The least form by the words of (1) and (2), what goes first being left to chance."""
    barred = {page for lot, number in forest if number == 0 for page in lot}
    least = {}
    for lot, number in forest:
        left = tuple(page for page in lot if page not in barred)
        if left:
            least[left] = min(number, least.get(left, number))
    tickets = dict(least)
    while True:
        going = [lot for lot in tickets if goes(tickets, lot)]
        if not going:
            return tuple(sorted(tickets.items()))
        del tickets[rng.choice(going)]


def goes(tickets, lot):
    if any(set(lot) < set(other) and tickets[lot] >= tickets[other] for other in tickets):
        return True
    within = [other for other in tickets if set(other) < set(lot)]
    return any(tickets[lot] >= total for total in sums(tickets, within, set(lot)))


def sums(tickets, within, rest):
    """The sums of the numbers of all choices of lots that are apart and make up the rest."""
    if not rest:
        yield 0
        return
    for lot in within:
        if min(rest) in lot and set(lot) <= rest:
            for total in sums(tickets, within, rest - set(lot)):
                yield total + tickets[lot]


def total(counts):
    return sum(many for _, many in counts)


class LeastForms(unittest.TestCase):
    def test_rule_one(self):
        self.assertEqual(least_form((((0,), 0),)), ())
        self.assertEqual(least_form((((0,), 0), ((0, 1), 3), ((2,), 0), ((2, 3), 1))), (((1,), 3), ((3,), 1)))
        self.assertEqual(least_form((((0,), 0), ((0, 1), 4), ((0, 1, 2), 9), ((1,), 3))), (((1,), 3), ((1, 2), 9)))
        self.assertEqual(least_form((((0,), 0), ((0, 1), 2), ((1,), 5))), (((1,), 2),))

    def test_rule_two(self):
        self.assertEqual(least_form((((0,), 3), ((0, 1), 3))), (((0, 1), 3),))
        self.assertEqual(least_form((((0,), 2), ((0, 1), 3))), (((0,), 2), ((0, 1), 3)))
        self.assertEqual(least_form((((0,), 1), ((0, 1), 3), ((1,), 2))), (((0,), 1), ((1,), 2)))
        self.assertEqual(least_form((((0,), 1), ((0, 1), 2), ((1,), 2)))[1], ((0, 1), 2))

    def test_one_that_goes_makes_another_one_go(self):
        forest = (((0,), 2), ((0, 1), 4), ((0, 1, 2, 3), 6), ((1,), 2), ((2,), 1), ((2, 3), 3), ((3,), 1))
        self.assertEqual(least_form(forest), (((0,), 2), ((1,), 2), ((2,), 1), ((3,), 1)))
        self.assertEqual(least_form((((0,), 5), ((0, 1), 4), ((0, 1, 2), 3))), (((0, 1, 2), 3),))

    def test_several_lots_make_up_one(self):
        forest = (((0,), 1), ((0, 1, 2), 6), ((1,), 2), ((2,), 3))
        self.assertEqual(least_form(forest), (((0,), 1), ((1,), 2), ((2,), 3)))
        self.assertEqual(least_form(forest[:1] + (((0, 1, 2), 5),) + forest[2:]), (forest[0], ((0, 1, 2), 5)) + forest[2:])
        self.assertEqual(least_form((((0,), 1), ((0, 1, 2), 6), ((1,), 2))), (((0,), 1), ((0, 1, 2), 6), ((1,), 2)))

    def test_against_the_rules(self):
        rng = random.Random(18)
        for forest in list(samples.small_forests(2)):
            self.hold(rng, forest)
        for _ in range(400):
            self.hold(rng, samples.random_forest(rng, range(8), 8, 6))

    def hold(self, rng, forest):
        least = least_form(forest)
        self.assertTrue(is_forest(least))
        self.assertEqual(least, by_rules(rng, forest))
        self.assertIs(is_least(forest), least == forest)
        self.assertIs(is_least(least), True)
        self.assertEqual(least_form(least), least)
        self.assertTrue(all(number > 0 for _, number in least))
        self.assertTrue(all(pressing_counts(least, index) is not None for index in range(len(least))))

    def test_pressing_counts(self):
        self.assertEqual(pressing_counts((((0,), 0),), 0), ((0, 1),))
        self.assertIsNone(pressing_counts((((0,), 2), ((0, 1), 2)), 0))
        self.assertIsNone(pressing_counts((((0,), 1), ((0, 1), 3), ((1,), 2)), 1))
        rng = random.Random(7)
        for _ in range(600):
            forest = samples.random_forest(rng, range(7), 7, 4)
            for index, (lot, number) in enumerate(forest):
                self.hold_pressing(forest, index, lot, number)

    def hold_pressing(self, forest, index, lot, number):
        counts = pressing_counts(forest, index)
        others = forest[:index] + forest[index + 1:]
        if counts is None:
            self.assertTrue(all(any(page in ticket[0] for ticket in others) for page in lot))
            held = [ticket[1] for ticket in others if set(lot) < set(ticket[0])]
            within = {ticket[0]: ticket[1] for ticket in others if set(ticket[0]) < set(lot)}
            bounds = held + list(sums(within, list(within), set(lot)))
            self.assertLessEqual(min(bounds), number)
            return
        self.assertEqual(counts, tuple(sorted(counts)))
        self.assertEqual(total(counts), number + 1)
        self.assertTrue(all(page in lot and many >= 1 for page, many in counts))
        for other, most in others:
            self.assertLessEqual(sum(many for page, many in counts if page in other), most)


class Alike(unittest.TestCase):
    def test_small_forests(self):
        """[9]: the same rows exactly if the least forms are equal."""
        rows, forms = {}, {}
        for forest in samples.small_forests(2):
            let = frozenset(slow.let_vectors(forest, PAGES, 3))
            least = least_form(forest)
            self.assertEqual(rows.setdefault(let, least), least)
            self.assertEqual(forms.setdefault(least, let), let)
        self.assertEqual(len(rows), len(forms))
        self.hold_all_pairs(forms)

    def hold_all_pairs(self, forms):
        rng = random.Random(9)
        every = sorted(forms)
        for one in every:
            for other in rng.sample(every, 60) + [one]:
                only = forms[one] - forms[other]
                self.assertIs(is_stricter(one, other), not only)
                self.assertIs(are_alike(one, other), one == other)
                counts = parting_row(one, other)
                if not only:
                    self.assertIsNone(counts)
                else:
                    self.hold_parting(one, other, counts)
                    self.assertEqual(total(counts), min(sum(vector) for vector in only))

    def hold_parting(self, one, other, counts):
        self.assertEqual(counts, tuple(sorted(counts)))
        self.assertTrue(all(many >= 1 for _, many in counts))
        self.assertTrue(lets_counts(one, counts))
        self.assertFalse(lets_counts(other, counts))

    def test_forests_that_are_not_least(self):
        rng = random.Random(10)
        every = list(samples.small_forests(2))
        for _ in range(3000):
            one, other = rng.choice(every), rng.choice(every)
            first, second = slow.let_vectors(one, PAGES, 3), slow.let_vectors(other, PAGES, 3)
            self.assertIs(are_alike(one, other), first == second)
            self.assertIs(is_stricter(one, other), first <= second)
            counts = parting_row(one, other)
            if first <= second:
                self.assertIsNone(counts)
            else:
                self.hold_parting(one, other, counts)
                self.assertEqual(total(counts), min(sum(vector) for vector in first - second))

    def test_no_ticket_and_a_ticket_of_zero_are_alike(self):
        self.assertIs(are_alike((), (((0, 1), 0),)), True)
        self.assertEqual([parting_row((), ()), parting_row((((4,), 9),), ()), parting_row((), (((4,), 9),))], [None, ((4, 1),), None])

    def test_great_forests(self):
        rng = random.Random(11)
        for _ in range(40):
            one, other = samples.great_forest(rng), samples.great_forest(rng)
            least = least_form(one)
            self.assertEqual([are_alike(one, least), parting_row(one, least), parting_row(least, one)], [True, None, None])
            self.assertIs(is_least(least), True)
            counts = parting_row(one, other)
            self.assertTrue(lets_counts(one, counts) and not lets_counts(other, counts))
            raised = tuple((lot, number + 1) for lot, number in one)
            counts = parting_row(raised, one)
            self.assertEqual(total(counts), min(number for _, number in one) + 1)
            self.assertTrue(lets_counts(raised, counts) and not lets_counts(one, counts))

    def test_parting_rows_lie_in_one_ticket(self):
        rng = random.Random(13)
        for _ in range(500):
            one = samples.random_forest(rng, range(6), 6, 4)
            other = samples.random_forest(rng, range(6), 6, 4)
            counts = parting_row(one, other)
            if counts is not None and total(counts) > 1:
                shared = [set(tickets_with(other, page)) for page, _ in counts]
                held = set.intersection(*shared)
                self.assertIn(total(counts) - 1, [other[index][1] for index in held])

    def test_all_short_rows(self):
        """No row that is shorter than the parting one parts them."""
        rng = random.Random(14)
        for _ in range(150):
            one = samples.random_forest(rng, range(4), 5, 3)
            other = samples.random_forest(rng, range(4), 5, 3)
            found = [sum(vector) for vector in product(range(4), repeat=4)
                     if lets_counts(one, self.counts(vector)) and not lets_counts(other, self.counts(vector))]
            counts = parting_row(one, other)
            self.assertEqual(None if counts is None else total(counts), min(found, default=None))

    def counts(self, vector):
        return tuple((page, many) for page, many in enumerate(vector) if many)
