"""Forests: what the tickets of one process let be copied."""


def tickets_with(forest, page):
    """The indexes of the tickets that have the page in their lots, from the outermost one in."""
    found = [index for index, ticket in enumerate(forest) if page in ticket[0]]
    return tuple(sorted(found, key=lambda at: -len(forest[at][0])))


def has_page(forest, page):
    """Whether some ticket has the page in its lot."""
    return len(tickets_with(forest, page)) > 0


def around_at(forest, index):
    """The index of the innermost ticket around the one at index, None if there is none."""
    # All tickets around it have its first page, too, so they stand ahead of it there.
    row = tickets_with(forest, forest[index][0][0])
    at = row.index(index)
    return None if at == 0 else row[at - 1]


def arounds(forest):
    """For each ticket the index of the innermost one around it, None if there is none."""
    return tuple([around_at(forest, index) for index in range(len(forest))])


def lets(forest, page):
    """Whether the forest lets the page be copied."""
    numbers = [number for lot, number in forest if page in lot]
    return len(numbers) > 0 and min(numbers) > 0


def spent(forest, page):
    """The forest, which lets the page be copied, spent by it."""
    return tuple([(lot, number - 1 if page in lot else number) for lot, number in forest])


def lessened(forest, lot, number):
    """The forest in which its ticket with this lot has this number."""
    return tuple([(lot, number) if ticket[0] == lot else ticket for ticket in forest])


def is_let_row(forest, row):
    """Whether the forest lets the row, decided page by page."""
    left = forest
    for page in row:
        if not lets(left, page):
            return False
        left = spent(left, page)
    return True


def counts_of(row):
    """The counts of a row."""
    many_of = {}
    for page in row:
        many_of[page] = many_of.get(page, 0) + 1
    return tuple([(page, many_of[page]) for page in sorted(many_of)])


def count_in(lot, counts):
    """How many pages of the lot a row with these counts has."""
    return sum([many for page, many in counts if page in lot])


def lets_counts(forest, counts):
    """Whether the forest lets the rows with these counts."""
    if not all([has_page(forest, page) for page, _ in counts]):
        return False
    return all([count_in(lot, counts) <= number for lot, number in forest])


def spent_counts(forest, counts):
    """The forest, which lets rows with these counts, spent by one of them."""
    return tuple([(lot, number - count_in(lot, counts)) for lot, number in forest])


def most_counts(forest, lot):
    """The counts of a longest row of pages of the lot that the forest lets.

    Page by page as many are taken as can be; that no row is longer is shown by cover.
    """
    counts = ()
    left = forest
    for page in lot:
        numbers = [number for pages, number in left if page in pages]
        many = min(numbers) if numbers else 0
        if many > 0:
            counts = counts + ((page, many),)
            left = spent_counts(left, ((page, many),))
    return counts


def most(forest, lot):
    """The greatest length of a row of pages of the lot that the forest lets."""
    return sum([many for _, many in most_counts(forest, lot)])


def cover(forest, lot):
    """The indexes of tickets that have all pages of the lot, numbers adding up to most.

    Behind the row of most_counts each page of the lot that has tickets is in one that is used up. The
    outermost ones of these have no page in common, and their numbers are what the row took of them.
    """
    left = spent_counts(forest, most_counts(forest, lot))
    found = {}
    for page in lot:
        full = [index for index in tickets_with(left, page) if left[index][1] == 0]
        if full:
            found[full[0]] = True
    return tuple(sorted(found))
