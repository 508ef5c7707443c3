"""What counts as an integer, a word, the keys of a net and allowances."""

LETTERS = "abcdefghijklmnopqrstuvwxyz"
LONGEST_WORD = 8
MOST_KEYS = 4
GREATEST_ALLOWANCE = 99


def is_integer(obj):
    return isinstance(obj, int) and not isinstance(obj, bool)


def is_integer_within(obj, low, high):
    return is_integer(obj) and low <= obj <= high


def is_word(obj):
    if not isinstance(obj, str) or not 1 <= len(obj) <= LONGEST_WORD:
        return False
    return all([letter in LETTERS for letter in obj])


def are_keys(obj):
    if not isinstance(obj, (list, tuple)) or not 1 <= len(obj) <= MOST_KEYS:
        return False
    if not all([is_word(item) for item in obj]):
        return False
    return len(set(obj)) == len(obj)


def is_allowance(obj):
    return is_integer_within(obj, 1, GREATEST_ALLOWANCE)


def are_allowances(obj, keys):
    if not isinstance(obj, dict) or len(obj) != len(keys):
        return False
    return all([key in obj and is_allowance(obj[key]) for key in keys])
