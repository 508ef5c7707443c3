"""Receipts: what shows that an answer was at most as many writes old as the need."""

from slackcache.errors import NoAnswer
from slackcache.net import Net
from slackcache.flow import STORE, rows_from
from slackcache.words import is_integer, is_word


def receipt_of(net, question):
    """The receipt that was noted when a node gave the answer."""
    net.answer(question)
    if question not in net.receipts:
        raise NoAnswer(question)
    return net.receipts[question]


def are_counts(items):
    return all([is_integer(item) and item >= 0 for item in items])


def is_row(obj):
    return isinstance(obj, tuple) and len(obj) == 5 and is_word(obj[0]) and are_counts(obj[1:])


def is_last_row(obj):
    if not isinstance(obj, tuple) or len(obj) != 2 or not are_counts(obj[1:]):
        return False
    return isinstance(obj[0], str) and obj[0] == STORE


def has_form(obj):
    """Whether an object is a tuple of the form of a receipt, whether or not it is accepted."""
    if not isinstance(obj, tuple) or len(obj) != 5 or not is_word(obj[0]) or not are_counts(obj[1:4]):
        return False
    rows = obj[4]
    if not isinstance(rows, tuple) or not rows:
        return False
    return is_last_row(rows[-1]) and all([is_row(row) for row in rows[:-1]])


def reach(row):
    """The greatest number that a row allows the store to have."""
    if len(row) == 2:
        return row[1]
    return row[1] + row[2]


def is_chain(rows):
    """Whether each row but the last allows what the next one does."""
    for row, following in zip(rows[:-1], rows[1:]):
        label, told, allowance, confirmed, granted = row
        if confirmed > told or granted > allowance or confirmed + granted < reach(following):
            return False
    return True


def judge(obj):
    """Whether any object is a receipt whose rows show that the answer served the need."""
    if not has_form(obj):
        return False
    key, need, floor, number, rows = obj
    if len(set([row[0] for row in rows])) < len(rows) or number < floor:
        return False
    first = rows[0]
    if len(rows) == 1:
        return first[1] == number
    return 0 <= shown_age(obj) <= need and first[1] <= number and is_chain(rows)


def shown_age(receipt):
    """How many writes old the answer can have been by an accepted receipt."""
    number, rows = receipt[3:]
    if len(rows) == 1:
        return 0
    return reach(rows[0]) - number


def shows(net, receipt):
    """Whether the rows and the number of a receipt are those of a net and its key."""
    key, need, floor, number, rows = receipt
    name = rows[0][0]
    if name not in net.nodes:
        return False
    node = net.nodes[name]
    if node.cells[key] is None or node.cells[key][0][0] != number:
        return False
    return rows_from(net, node, key) == rows


def moments_of_number(net, key, number):
    """The first and the last moment at which the store had a number; the last is less if it never had."""
    stamps = [stamp for word, stamp in zip(net.accepted, net.stamps) if word == key]
    if number > len(stamps):
        return (0, -1)
    first = stamps[number - 1] if number > 0 else 0
    last = stamps[number] - 1 if number < len(stamps) else len(net.done)
    return (first, last)


def is_possible(number, rows):
    """Whether a net may have shown these rows: no node tells more than it has, or confirms more than it tells."""
    first, total = rows[0], rows[-1][1]
    if number > total or first[1] > number:
        return False
    for label, told, allowance, confirmed, granted in rows[:-1]:
        if told > total or confirmed > told:
            return False
    return True


def moment_of_receipt(net, receipt):
    """The least number of deeds after which the net showed this receipt, or None."""
    if not has_form(receipt) or receipt[0] not in net.words:
        return None
    key, need, floor, number, rows = receipt
    if not is_possible(number, rows):
        return None
    # Only the moments at which the store had its number of the receipt need a look.
    first, last = moments_of_number(net, key, rows[-1][1])
    if len(rows) == 1:
        return first if number == rows[0][1] and first <= last else None
    past = Net(net.words)
    for moment, deed in enumerate(net.done[:last + 1]):
        if moment >= first and shows(past, receipt):
            return moment
        past.perform(deed)
    return last if len(net.done) == last and shows(past, receipt) else None
