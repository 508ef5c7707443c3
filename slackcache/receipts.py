"""Receipts: what shows that an answer was at most as many writes old as the need."""

from slackcache.errors import NoAnswer
from slackcache.net import Net
from slackcache.state import STORE
from slackcache.words import is_integer, is_word


def receipt_of(net, question):
    """The receipt that was noted when a node gave the answer."""
    net.answer(question)
    if question not in net.core.receipts:
        raise NoAnswer(question)
    return net.core.receipts[question]


def are_counts(items):
    return all([is_integer(item) and item >= 0 for item in items])


def is_row(obj):
    return isinstance(obj, tuple) and len(obj) == 5 and is_word(obj[0]) and are_counts(obj[1:])


def is_last_row(obj):
    if not isinstance(obj, tuple) or len(obj) != 2 or not are_counts(obj[1:]):
        return False
    return isinstance(obj[0], str) and obj[0] == STORE


def has_form(obj):
    """Whether an object is a tuple of the form of a receipt, whether or not it is accepted."""
    if not isinstance(obj, tuple) or len(obj) != 5 or not is_word(obj[0]) or not are_counts(obj[1:4]):
        return False
    rows = obj[4]
    if not isinstance(rows, tuple) or not rows:
        return False
    return is_last_row(rows[-1]) and all([is_row(row) for row in rows[:-1]])


def reach(row):
    """The greatest number that a row allows the store to have."""
    if len(row) == 2:
        return row[1]
    return row[1] + row[2]


def is_chain(rows):
    """Whether each row but the last allows what the next one does."""
    for row, following in zip(rows[:-1], rows[1:]):
        label, told, allowance, confirmed, granted = row
        if confirmed > told or granted > allowance or confirmed + granted < reach(following):
            return False
    return True


def judge(obj):
    """Whether any object is a receipt whose rows show that the answer served the need."""
    if not has_form(obj):
        return False
    key, need, floor, number, rows = obj
    if len(set([row[0] for row in rows])) < len(rows) or number < floor:
        return False
    first = rows[0]
    if len(rows) == 1:
        return first[1] == number
    return 0 <= shown_age(obj) <= need and first[1] <= number and is_chain(rows)


def shown_age(receipt):
    """How many writes old the answer can have been by an accepted receipt."""
    number, rows = receipt[3:]
    if len(rows) == 1:
        return 0
    return reach(rows[0]) - number


def shows(net, receipt):
    """Whether the rows and the number of a receipt are those of a net and its key."""
    key, need, floor, number, rows = receipt
    name = rows[0][0]
    if name not in net or key not in net[name]:
        return False
    node = net[name]
    return node[key][0] == number and net.core.rows_from(node, key) == rows


def moment_of_receipt(net, receipt):
    """The least number of deeds after which the net showed this receipt, or None."""
    if not has_form(receipt):
        return None
    past = Net(net.key_names)
    for moment, deed in enumerate(net.history):
        if shows(past, receipt):
            return moment
        past.perform(deed)
    return len(net.history) if shows(past, receipt) else None
