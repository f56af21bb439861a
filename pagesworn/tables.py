"""Tables in levels: which entry a page has, found digit by digit to the base four."""

from pagesworn.forms import is_integer, is_number, is_row

MOST_DEPTH = 9


def is_entry(thing):
    """Whether thing is an entry: a tuple (word, index, is_open)."""
    if not is_row(thing, 3) or not isinstance(thing[0], str) or not is_number(thing[1]):
        return False
    word, index, is_open = thing
    if word == "frame":
        return isinstance(is_open, bool)
    return is_open is False and (word == "slot" or (word == "zero" and index == 0))


def is_node(thing, height):
    """Whether thing is a node of this height."""
    if not is_row(thing, 4):
        return False
    items = [item for item in thing if item is not None]
    if height == 1:
        return items != [] and all([is_entry(item) for item in items])
    return items != [] and all([is_node(item, height - 1) for item in items])


def is_table(thing):
    """Whether thing is a table: a tuple (depth, root)."""
    if not is_row(thing, 2) or not is_integer(thing[0]) or thing[0] < 1 or thing[0] > MOST_DEPTH:
        return False
    return thing[1] is None or is_node(thing[1], thing[0])


def room_of(depth):
    """How many pages a table of this depth has room for: 4 ** depth."""
    room = 1
    for _ in range(depth):
        room = room * 4
    return room


def depth_for(many):
    """The least depth, from 1 on, of a table with room for so many pages."""
    depth = 1
    while room_of(depth) < many:
        depth += 1
    return depth


def node_of(height, entries):
    """The node of this height that leads to just these entries, a dict from pages, None if there are none."""
    if len(entries) == 0:
        return None
    if height == 1:
        return tuple([entries.get(digit) for digit in range(4)])
    room = room_of(height - 1)
    parts = [{}, {}, {}, {}]
    for page in entries:
        parts[page // room][page % room] = entries[page]
    return tuple([node_of(height - 1, part) for part in parts])


def table_of(depth, entries):
    """The table of this depth in which just the pages of the dict have entries, these ones."""
    return (depth, node_of(depth, entries))


def entries_in(node, height, first):
    """The list of the tuples (page, entry) to which a node leads, first being the first page for which it has room."""
    if node is None:
        return []
    if height == 1:
        return [(first + digit, entry) for digit, entry in enumerate(node) if entry is not None]
    room = room_of(height - 1)
    found = []
    for digit, item in enumerate(node):
        found.extend(entries_in(item, height - 1, first + digit * room))
    return found


def entries_of(table):
    """The dict from all pages that have an entry to their entries."""
    depth, root = table
    return dict(entries_in(root, depth, 0))


def way_to(table, page):
    """The list of all that the page leads to, from the root on, the entry being the last one if there is one."""
    depth, root = table
    room = room_of(depth)
    found = []
    at = None if page >= room else root
    while at is not None:
        found.append(at)
        if len(found) > depth:
            return found
        room = room // 4
        at = at[page // room % 4]
    return found


def entry_at(table, page):
    """The entry of a page, None if there is none."""
    way = way_to(table, page)
    return way[-1] if len(way) > table[0] else None


def steps_to(table, page):
    """How many nodes a page leads through."""
    return min(len(way_to(table, page)), table[0])


def nodes_in(node, height):
    """How many nodes there are from this one on, itself counted; 0 if it is None."""
    if node is None:
        return 0
    if height == 1:
        return 1
    return 1 + sum([nodes_in(item, height - 1) for item in node])


def nodes_many(table):
    """How many nodes a table has."""
    return nodes_in(table[1], table[0])


def with_entry(table, page, entry):
    """The table in which a page has this entry, None for none, and all others have what they had."""
    entries = entries_of(table)
    if entry is None:
        entries.pop(page, None)
    else:
        entries[page] = entry
    return table_of(table[0], entries)


def deeper(table):
    """The table, with the same entries, of a depth that is one greater."""
    depth, root = table
    return (depth + 1, None if root is None else (root, None, None, None))
