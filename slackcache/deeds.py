"""The form in which deeds are noted."""

# The number of arguments with which each deed is noted.
ARGUMENTS = {
    "join": 3,
    "write": 2,
    "read": 4,
    "change": 3,
    "deliver": 2,
    "leave": 1,
    "crash": 1,
    "forget": 1,
    "recover": 1,
}


def are_pairs(obj, keys):
    """Whether an object is a tuple of pairs, one for each key in order."""
    if not isinstance(obj, tuple) or len(obj) != len(keys):
        return False
    return all([is_pair(pair, key) for pair, key in zip(obj, keys)])


def is_pair(obj, key):
    if not isinstance(obj, tuple) or len(obj) != 2:
        return False
    return isinstance(obj[0], str) and obj[0] == key


def is_deed(obj, keys):
    """Whether an object has the form of a deed, whatever its arguments are."""
    if not isinstance(obj, tuple) or not obj:
        return False
    verb = obj[0]
    if not isinstance(verb, str) or verb not in ARGUMENTS or len(obj) != ARGUMENTS[verb] + 1:
        return False
    return verb != "join" or are_pairs(obj[3], keys)
