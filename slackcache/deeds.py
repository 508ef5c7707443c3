"""The forms in which deeds are noted and written."""

from slackcache.words import is_number_text, is_word

# What follows the name of each deed in a line but that of a join.
FORMS = {
    "write": ("word", "integer"),
    "read": ("word", "word", "integer", "integer"),
    "change": ("word", "word", "integer"),
    "deliver": ("word", "word"),
    "leave": ("word",),
    "crash": ("word",),
    "forget": ("word",),
    "recover": ("word",),
}


def are_pairs(obj, keys):
    """Whether an object is a tuple of pairs, one for each key in order."""
    if not isinstance(obj, tuple) or len(obj) != len(keys):
        return False
    for pair, key in zip(obj, keys):
        if not isinstance(pair, tuple) or len(pair) != 2:
            return False
        if not isinstance(pair[0], str) or pair[0] != key:
            return False
    return True


def read_items(words, form):
    """The items that are written in words of these kinds, or None."""
    if len(words) != len(form):
        return None
    items = []
    for word, kind in zip(words, form):
        if kind == "word":
            if not is_word(word):
                return None
            items.append(word)
        else:
            if not is_number_text(word):
                return None
            items.append(int(word))
    return tuple(items)


def read_deed(words):
    """The deed that is written in the words of a line, or None; a join with its allowances alone."""
    verb = words[0]
    if verb == "join" and len(words) > 3:
        items = read_items(words[1:], ("word", "word") + ("integer",) * (len(words) - 3))
        return None if items is None else ("join", items[0], items[1], items[2:])
    if verb not in FORMS:
        return None
    items = read_items(words[1:], FORMS[verb])
    return None if items is None else (verb, *items)


def with_keys(deed, keys):
    """A deed that was read, as it is noted, or None for a join with another number of allowances."""
    if deed[0] != "join":
        return deed
    if len(deed[3]) != len(keys):
        return None
    return deed[:3] + (tuple(list(zip(keys, deed[3]))),)
