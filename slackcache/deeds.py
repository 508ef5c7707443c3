"""The form in which deeds are noted."""

# The number of items with which each deed is noted: its name and its arguments.
LENGTHS = {
    "join": 4,
    "write": 3,
    "read": 5,
    "change": 4,
    "deliver": 3,
    "leave": 2,
    "crash": 2,
    "forget": 2,
    "recover": 2,
}


def are_pairs(obj, keys):
    """Whether an object is a tuple of pairs, one for each key in order."""
    if not isinstance(obj, tuple) or len(obj) != len(keys):
        return False
    for pair, key in zip(obj, keys):
        if not isinstance(pair, tuple) or len(pair) != 2:
            return False
        if not isinstance(pair[0], str) or pair[0] != key:
            return False
    return True


def is_deed(obj, keys):
    """Whether an object has the form of a deed, whatever its arguments are."""
    if not isinstance(obj, tuple) or not obj:
        return False
    verb = obj[0]
    if not isinstance(verb, str) or len(obj) != LENGTHS.get(verb):
        return False
    return verb != "join" or are_pairs(obj[3], keys)
