"""What counts as an integer, a word, the keys of a net and allowances."""

LONGEST_WORD = 8
MOST_KEYS = 4
GREATEST_ALLOWANCE = 99


def is_integer(obj):
    return isinstance(obj, int) and not isinstance(obj, bool)


def is_integer_within(obj, low, high):
    return isinstance(obj, int) and not isinstance(obj, bool) and low <= obj <= high


def is_word(obj):
    if not isinstance(obj, str) or len(obj) > LONGEST_WORD:
        return False
    return obj.isascii() and obj.isalpha() and obj.islower()


def are_keys(obj):
    if not isinstance(obj, (list, tuple)) or not 1 <= len(obj) <= MOST_KEYS:
        return False
    if not all([is_word(item) for item in obj]):
        return False
    return len(set(obj)) == len(obj)


def is_allowance(obj):
    return isinstance(obj, int) and not isinstance(obj, bool) and 1 <= obj <= GREATEST_ALLOWANCE


def are_allowances(obj, keys):
    if not isinstance(obj, dict) or len(obj) != len(keys):
        return False
    for key in keys:
        if key not in obj or not is_allowance(obj[key]):
            return False
    return True


def is_number_text(text):
    """Whether a text is an integer without leading zeros, with a minus sign if it is negative."""
    digits = text[1:] if text.startswith("-") else text
    if not digits.isascii() or not digits.isdigit():
        return False
    return not digits.startswith("0") or text == "0"
