"""Texts of deeds, histories, tokens, cuts and receipts."""

from slackcache.cuts import Cut, is_order
from slackcache.deeds import read_deed, read_items, with_keys
from slackcache.errors import InvalidCut, InvalidKeys, InvalidOrder, InvalidText
from slackcache.receipts import has_form
from slackcache.sessions import Token
from slackcache.words import are_keys

NO_FLOORS = "-"


def spaced(items):
    return " ".join([str(item) for item in items])


def format_deed(deed):
    if deed[0] == "join":
        return spaced(deed[:3] + tuple([allowance for key, allowance in deed[3]]))
    return spaced(deed)


def deed_of_line(line, keys):
    """The deed that is written in a line for some keys, or None."""
    deed = read_deed(line.split(" "))
    return None if deed is None else with_keys(deed, keys)


def parse_deed(text, keys):
    if not are_keys(keys):
        raise InvalidKeys(keys)
    deed = deed_of_line(text, keys) if isinstance(text, str) else None
    if deed is None:
        raise InvalidText(text)
    return deed


def format_history(history):
    return "\n".join([format_deed(deed) for deed in history])


def parse_history(text, keys):
    """The tuple of the deeds that are written in lines."""
    if not are_keys(keys):
        raise InvalidKeys(keys)
    if not isinstance(text, str):
        raise InvalidText(text)
    if text == "":
        return ()
    deeds = [deed_of_line(line, keys) for line in text.split("\n")]
    if any([deed is None for deed in deeds]):
        raise InvalidText(text)
    return tuple(deeds)


def format_numbers(numbers):
    """A dict from keys to numbers, in ascending order."""
    return " ".join([f"{key}={numbers[key]}" for key in sorted(list(numbers))])


def read_numbers(text):
    """The dict from keys in ascending order to integers that is written in a text, or None."""
    numbers = {}
    latest = ""
    for part in text.split(" "):
        items = read_items(part.split("="), ("word", "integer"))
        if items is None or items[0] <= latest:
            return None
        latest = items[0]
        numbers[latest] = items[1]
    return numbers


def format_token(token):
    return format_numbers(token.floors) if token.floors else NO_FLOORS


def parse_token(text):
    if not isinstance(text, str):
        raise InvalidText(text)
    if text == NO_FLOORS:
        return Token({})
    floors = read_numbers(text)
    if floors is None or min(list(floors.values())) < 1:
        raise InvalidText(text)
    return Token(floors)


def format_cut(cut):
    return format_numbers(cut.numbers)


def parse_cut(text, order):
    if not is_order(order):
        raise InvalidOrder(order)
    numbers = read_numbers(text) if isinstance(text, str) else None
    try:
        return Cut(order, numbers)
    except InvalidCut:
        raise InvalidText(text) from None


def format_receipt(receipt):
    return "\n".join([spaced(receipt[:4])] + [spaced(row) for row in receipt[4]])


def items_of_line(line):
    """The word and the integers that are written in a line, or None."""
    words = line.split(" ")
    return read_items(words, ("word",) + ("integer",) * (len(words) - 1))


def parse_receipt(text):
    """A tuple of the form of a receipt, whether or not the judge accepts it."""
    if not isinstance(text, str):
        raise InvalidText(text)
    rows = [items_of_line(line) for line in text.split("\n")]
    if rows[0] is None:
        raise InvalidText(text)
    receipt = rows[0] + (tuple(rows[1:]),)
    if not has_form(receipt):
        raise InvalidText(text)
    return receipt
