"""Tables: what is told of a state, and the roots of the states behind its changes."""

from papervault.errors import BadThing, NoColumn, NoName, NoRow, NoTable
from papervault.names import is_name, is_value
from papervault.nodes import is_root
from papervault.things import is_whole
from papervault.trees import cut, found, put, stretch

# The places in the tuple of a table.
COLUMNS = 0
ROWS = 1
ORDERS = 2

# The places in the tuple of an order.
NUMBER = 0
TREE = 1

MOST_COLUMNS = 6


def are_columns(given):
    """Whether a list or a tuple has one to six unlike names, and nothing else."""
    if not 1 <= len(given) <= MOST_COLUMNS:
        return False
    for column in given:
        if not is_name(column):
            return False
    return len(set(given)) == len(given)


def are_orders(thing, many):
    """Whether a thing has the form of the orders of a table with so many columns."""
    if not isinstance(thing, tuple):
        return False
    last = 0
    for order in thing:
        if not is_order(order) or not last < order[NUMBER] < many:
            return False
        last = order[NUMBER]
    return True


def is_order(thing):
    """Whether a thing has the form of an order, of whatever column."""
    return isinstance(thing, tuple) and len(thing) == 2 and is_whole(thing[NUMBER]) and is_root(thing[TREE])


def is_table(thing):
    """Whether a thing has the form of a table."""
    if not isinstance(thing, tuple) or len(thing) != 3:
        return False
    columns = thing[COLUMNS]
    if not isinstance(columns, tuple) or not are_columns(columns):
        return False
    return is_root(thing[ROWS]) and are_orders(thing[ORDERS], len(columns))


def are_values(given, many):
    """Whether a list or a tuple has just so many values, and nothing else."""
    if len(given) != many:
        return False
    for value in given:
        if not is_value(value):
            return False
    return True


def row_of(table, key, worth):
    """The row that a worth in a table's rows is; BadThing where it is none, or none of the key."""
    if not isinstance(worth, tuple) or not are_values(worth, len(table[COLUMNS])) or worth[0] != key:
        raise BadThing("a thing that is read as a row is none, or has another first value than its key")
    return worth


def names(vault, root):
    """The names of a state's tables, as a list, rising; NoPaper, BadThing."""
    told = [pair[0] for pair in stretch(vault, root, None, None)]
    for name in told:
        if not is_name(name):
            raise BadThing("a thing that is read as a table's name is none")
    return told


def table_at(vault, root, name):
    """The tuple (columns, rows, orders) of a table; NoTable, NoPaper, BadThing."""
    worth = found(vault, root, name)
    if worth is None:
        raise NoTable("there is no table of that name")
    if not is_name(name) or not is_table(worth):
        raise BadThing("a thing that is read as a table or as its name is none")
    return worth


def columns_of(vault, root, name):
    """The names of a table's columns, as a tuple; NoTable, NoPaper, BadThing."""
    return table_at(vault, root, name)[COLUMNS]


def ordered(vault, root, name):
    """The numbers of a table's columns with an order, as a list, rising; NoTable, NoPaper, BadThing."""
    return [order[NUMBER] for order in table_at(vault, root, name)[ORDERS]]


def rows_in(vault, table):
    """The rows of a table that was read, as a list, rising by first values; NoPaper, BadThing."""
    return [row_of(table, key, worth) for key, worth in stretch(vault, table[ROWS], None, None)]


def row_in(vault, table, value):
    """The row with a first value of a table that was read, or None; NoPaper, BadThing."""
    worth = found(vault, table[ROWS], value)
    return None if worth is None else row_of(table, value, worth)


def rows_of(vault, root, name):
    """A table's rows, as a list of tuples, rising by first values; NoTable, NoPaper, BadThing."""
    return rows_in(vault, table_at(vault, root, name))


def row_at(vault, root, name, value):
    """A table's row with a first value, or None; NoTable, NoPaper, BadThing."""
    return row_in(vault, table_at(vault, root, name), value)


def make_table(vault, root, name, columns):
    """The root behind making a table without rows and orders; NoName, NoTable, NoPaper, BadThing, Clash."""
    if not is_name(name) or not are_columns(columns):
        raise NoName("a table's name or its columns are none")
    if stands(vault, root, name):
        raise NoTable("there is a table of that name")
    return put(vault, root, name, (tuple(columns), 0, ()))


def stands(vault, root, name):
    """Whether there is a table of a name; NoPaper, BadThing."""
    try:
        table_at(vault, root, name)
    except NoTable:
        return False
    return True


def drop_table(vault, root, name):
    """The root behind dropping a table; NoTable, NoPaper, BadThing, Clash."""
    table_at(vault, root, name)
    return cut(vault, root, name)


def number_of_order(table, column):
    """The number of a column that may have an order; NoColumn where there is none, or it is the first one."""
    if column not in table[COLUMNS][1:]:
        raise NoColumn("there is no such column, or it is the first one")
    return table[COLUMNS].index(column)


def other_orders(table, number):
    """The orders of a table but the one on the column of a number, as a list."""
    return [order for order in table[ORDERS] if order[NUMBER] != number]


def make_order(vault, root, name, column):
    """The root behind making an order on a column, anew where it is there; NoTable, NoColumn and a vault's."""
    table = table_at(vault, root, name)
    number = number_of_order(table, column)
    order = (number, 0)
    for row in rows_in(vault, table):
        order = order_with(vault, order, row)
    orders = tuple(sorted(other_orders(table, number) + [order]))
    return put(vault, root, name, (table[COLUMNS], table[ROWS], orders))


def drop_order(vault, root, name, column):
    """The root behind dropping the order on a column, where it is there; NoTable, NoColumn and a vault's."""
    table = table_at(vault, root, name)
    orders = tuple(other_orders(table, number_of_order(table, column)))
    if orders == table[ORDERS]:
        return root
    return put(vault, root, name, (table[COLUMNS], table[ROWS], orders))


def key_in(order, row):
    """The key that a row has in an order."""
    return (row[order[NUMBER]], row[0])


def order_with(vault, order, row):
    """An order behind putting a row into it."""
    return (order[NUMBER], put(vault, order[TREE], key_in(order, row), 1))


def order_without(vault, order, row):
    """An order behind cutting a row from it."""
    return (order[NUMBER], cut(vault, order[TREE], key_in(order, row)))


def put_row(vault, root, name, row):
    """The root behind putting a row, in the place of one with its first value; NoTable, NoRow and a vault's."""
    table = table_at(vault, root, name)
    if not are_values(row, len(table[COLUMNS])):
        raise NoRow("the row is none of the table")
    new = tuple(row)
    old = row_in(vault, table, new[0])
    orders = table[ORDERS]
    if old is not None:
        # Its keys hang on its values: they would stay behind where these are others now.
        orders = [order_without(vault, order, old) for order in orders]
    orders = tuple([order_with(vault, order, new) for order in orders])
    rows = put(vault, table[ROWS], new[0], new)
    return put(vault, root, name, (table[COLUMNS], rows, orders))


def cut_row(vault, root, name, value):
    """The root behind cutting the row with a first value, where it is there; NoTable and a vault's."""
    table = table_at(vault, root, name)
    old = row_in(vault, table, value)
    if old is None:
        return root
    orders = tuple([order_without(vault, order, old) for order in table[ORDERS]])
    rows = cut(vault, table[ROWS], value)
    return put(vault, root, name, (table[COLUMNS], rows, orders))
