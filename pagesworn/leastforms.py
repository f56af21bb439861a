"""Least forms: which forests let the same rows, and which row parts two of them."""

from pagesworn.forests import has_page, lets, most, most_counts


def without_zeros(forest):
    """The forest behind rule (1): no ticket has a page that one with the number 0 has."""
    barred = {page: True for lot, number in forest if number == 0 for page in lot}
    least = {}
    for lot, number in forest:
        left = tuple([page for page in lot if page not in barred])
        if left != ():
            least[left] = min(least.get(left, number), number)
    return tuple([(lot, least[lot]) for lot in sorted(least)])


def lies_in(lot, other):
    """Whether the other lot has all pages of the lot, and more."""
    return len(lot) < len(other) and all([page in other for page in lot])


def can_go(forest, index):
    """Whether the ticket at index goes by rule (2)."""
    lot, number = forest[index]
    if any([number >= ticket[1] for ticket in forest if lies_in(lot, ticket[0])]):
        return True
    # The least sum of numbers of tickets whose lots make up the lot is the length of a longest row
    # that these let [17], and tickets that have a page in common are nested: the outer one is enough.
    within = tuple([ticket for ticket in forest if lies_in(ticket[0], lot)])
    return all([has_page(within, page) for page in lot]) and number >= most(within, lot)


def without_one(forest):
    """The forest without the first ticket that goes by rule (2); the same forest if none does."""
    for index in range(len(forest)):
        if can_go(forest, index):
            return forest[:index] + forest[index + 1:]
    return forest


def least_form(forest):
    """The least form of a forest."""
    found = without_zeros(forest)
    lesser = without_one(found)
    while lesser != found:
        found = lesser
        lesser = without_one(found)
    return found


def is_least(forest):
    """Whether the forest is its own least form."""
    return least_form(forest) == forest


def first_counts(counts, many):
    """Counts of so many pages in all, the first ones of those that the counts have."""
    found = ()
    left = many
    for page, times in counts:
        taken = min(times, left)
        if taken > 0:
            found = found + ((page, taken),)
            left = left - taken
    return found


def pressing_counts(forest, index):
    """Counts of pages of the lot of a ticket, one more than its number, that all others let; None if there are none.

    What is in no other ticket is let by the others, as often as one likes.
    """
    lot, number = forest[index]
    others = forest[:index] + forest[index + 1:]
    for page in lot:
        if not has_page(others, page):
            return ((page, number + 1),)
    if most(others, lot) <= number:
        return None
    return first_counts(most_counts(others, lot), number + 1)


def are_alike(one, other):
    """Whether two forests let the same rows."""
    return least_form(one) == least_form(other)


def parting_row(one, other):
    """The counts of a shortest row that one lets and other does not, None if there is none.

    A shortest row is too many by a single page: this is in no ticket of other, or all of the row
    is in the lot of one ticket of other, by one more than its number.
    """
    for lot, _ in one:
        for page in lot:
            if lets(one, page) and not lets(other, page):
                return ((page, 1),)
    numbers = [number for lot, number in other if most(one, lot) > number]
    if not numbers:
        return None
    least = min(numbers)
    lots = [lot for lot, number in other if number == least and most(one, lot) > number]
    return first_counts(most_counts(one, lots[0]), least + 1)


def is_stricter(one, other):
    """Whether other lets each row that one lets."""
    return parting_row(one, other) is None
