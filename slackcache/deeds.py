"""The form in which the allowances of a join are noted."""


def are_pairs(obj, keys):
    """Whether an object is a tuple of pairs, one for each key in order."""
    if not isinstance(obj, tuple) or len(obj) != len(keys):
        return False
    for pair, key in zip(obj, keys):
        if not isinstance(pair, tuple) or len(pair) != 2:
            return False
        if not isinstance(pair[0], str) or pair[0] != key:
            return False
    return True
