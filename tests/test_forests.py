"""[17]: tickets."""

import random
import unittest
from itertools import product

import samples
import slow
from pagesworn.forests import arounds, counts_of, cover, has_page, is_let_row, lessened, lets, lets_counts, most
from pagesworn.forests import most_counts, spent, spent_counts, tickets_with

NESTED = (((0,), 2), ((0, 1), 3), ((0, 1, 2), 3), ((3,), 0), ((3, 4), 5))
PAGES = (0, 1, 2, 3)


def all_lots():
    return [tuple(page for page in PAGES if mask >> page & 1) for mask in range(16)]


class Tickets(unittest.TestCase):
    def test_tickets_with(self):
        self.assertEqual([tickets_with(NESTED, page) for page in range(6)], [(2, 1, 0), (2, 1), (2,), (4, 3), (4,), ()])
        self.assertEqual(tickets_with((), 0), ())
        self.assertEqual([has_page(NESTED, page) for page in range(6)], [True] * 5 + [False])
        self.assertIs(has_page((((0,), 0),), 0), True)

    def test_tickets_with_stand_from_outermost_in(self):
        rng = random.Random(1)
        for _ in range(300):
            forest = samples.random_forest(rng, range(8), 8, 4)
            for page in range(9):
                found = tickets_with(forest, page)
                self.assertEqual(sorted(found), [index for index, ticket in enumerate(forest) if page in ticket[0]])
                for outer, inner in zip(found, found[1:]):
                    self.assertLess(set(forest[inner][0]), set(forest[outer][0]))

    def test_arounds(self):
        self.assertEqual([arounds(()), arounds(NESTED)], [(), (1, 2, None, 4, None)])
        rng = random.Random(2)
        for _ in range(300):
            forest = samples.random_forest(rng, range(8), 8, 4)
            lots = [set(ticket[0]) for ticket in forest]
            for lot, around in zip(lots, arounds(forest)):
                outer = [index for index, other in enumerate(lots) if lot < other]
                self.assertEqual(around, min(outer, key=lambda index: len(lots[index]), default=None))

    def test_lets(self):
        self.assertEqual([lets(NESTED, page) for page in range(6)], [True, True, True, False, True, False])
        self.assertIs(lets((), 0), False)
        self.assertIs(lets((((0,), 1), ((0, 1), 0)), 0), False)

    def test_spent_and_lessened(self):
        self.assertEqual(spent(NESTED, 1), (((0,), 2), ((0, 1), 2), ((0, 1, 2), 2), ((3,), 0), ((3, 4), 5)))
        self.assertEqual(spent(NESTED, 4)[3:], (((3,), 0), ((3, 4), 4)))
        self.assertEqual(lessened(NESTED, (0, 1), 0)[:2], (((0,), 2), ((0, 1), 0)))
        self.assertEqual(lessened(NESTED, (0,), 10 ** 30), (((0,), 10 ** 30),) + NESTED[1:])
        self.assertEqual(lessened(NESTED, (3,), 0), NESTED)

    def test_rows(self):
        self.assertEqual([is_let_row((), ()), is_let_row((), (0,)), is_let_row(NESTED, ())], [True, False, True])
        self.assertEqual([is_let_row(NESTED, row) for row in ((0, 0), (0, 0, 0), (0, 2, 1, 2), (4,) * 5, (4,) * 6, (4, 3), (9,))],
                         [True, False, False, True, False, False, False])

    def test_counts(self):
        self.assertEqual([counts_of(()), counts_of((5,)), counts_of((7, 2, 7, 7))], [(), ((5, 1),), ((2, 1), (7, 3))])
        self.assertIs(lets_counts((), ()), True)
        self.assertIs(lets_counts(NESTED, ((9, 1),)), False)
        self.assertIs(lets_counts(NESTED, ((3, 1), (4, 1))), False)
        self.assertEqual(spent_counts(NESTED, ()), NESTED)

    def test_great_counts(self):
        forest = (((0,), 10 ** 12), ((0, 1), 10 ** 12 + 5), ((2,), 0))
        self.assertEqual([lets_counts(forest, ((0, many),)) for many in (10 ** 12 - 1, 10 ** 12, 10 ** 12 + 1)], [True, True, False])
        self.assertEqual([lets_counts(forest, ((0, 10 ** 12), (1, many))) for many in (5, 6)], [True, False])
        self.assertEqual(spent_counts(forest, ((0, 10 ** 12), (1, 5))), (((0,), 0), ((0, 1), 0), ((2,), 0)))
        self.assertEqual([most(forest, (0, 1)), most(forest, (0,)), most(forest, (2, 3))], [10 ** 12 + 5, 10 ** 12, 0])

    def test_small_forests_let_what_they_let(self):
        for forest in samples.small_forests(2):
            let = slow.let_vectors(forest, PAGES, 2)
            for vector in product(range(3), repeat=4):
                counts = tuple((page, many) for page, many in zip(PAGES, vector) if many)
                row = tuple(page for page, many in counts for _ in range(many))
                told = lets_counts(forest, counts)
                self.assertIs(told, vector in let)
                self.assertIs(is_let_row(forest, row), told)
                self.assertIs(is_let_row(forest, row[::-1]), told)
                self.assertEqual(counts_of(row[::-1]), counts)
                if told:
                    left = forest
                    for page in row[::-1]:
                        left = spent(left, page)
                    self.assertEqual(spent_counts(forest, counts), left)

    def test_most_of_small_forests(self):
        for forest in samples.small_forests(2):
            let = slow.let_vectors(forest, PAGES, 2)
            for lot in all_lots():
                within = [sum(vector) for vector in let if all(page in lot or not vector[page] for page in PAGES)]
                self.assertEqual(most(forest, lot), max(within))
                self.hold_papers(forest, lot)

    def hold_papers(self, forest, lot):
        """The two papers that show that most is neither too great nor too small."""
        counts, held, many = most_counts(forest, lot), cover(forest, lot), most(forest, lot)
        self.assertTrue(lets_counts(forest, counts))
        self.assertEqual(counts, tuple(sorted(counts)))
        self.assertTrue(all(page in lot and times >= 1 for page, times in counts))
        self.assertEqual(len({page for page, _ in counts}), len(counts))
        self.assertEqual(sum(times for _, times in counts), many)
        self.assertEqual(list(held), sorted(set(held)))
        self.assertEqual(sum(forest[index][1] for index in held), many)
        for page in lot:
            if has_page(forest, page):
                self.assertTrue(any(page in forest[index][0] for index in held))

    def test_papers_of_great_forests(self):
        rng = random.Random(4)
        for _ in range(60):
            forest = samples.great_forest(rng)
            pages = sorted({page for ticket in forest for page in ticket[0]})
            for lot in ((), tuple(pages), tuple(sorted(rng.sample(pages, 9))), forest[0][0], forest[-1][0], (5, 999)):
                self.hold_papers(forest, lot)
        for _ in range(400):
            forest = samples.random_forest(rng, range(12), 10, rng.choice([2, 5, 10 ** 12]))
            self.hold_papers(forest, tuple(sorted(rng.sample(range(14), rng.randint(0, 14)))))
