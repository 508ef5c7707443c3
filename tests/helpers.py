"""What the tests share."""

from slackcache.errors import CacheError
from slackcache.net import Net


class Hostile:
    """An object with which nothing can be done but to hold it."""

    __hash__ = None

    def refuse(self, *args):
        raise AssertionError("an object was used before it was refused")

    __eq__ = __bool__ = __len__ = __iter__ = __getitem__ = __contains__ = __lt__ = __int__ = __index__ = refuse


LIST_OF_A_WORD = ["price"]
TUPLE_OF_A_WORD = ("price",)

# Objects that are no word, no key, no name and no integer within any limits but 0 and 1.
ODD = [
    None, True, False, 1.0, "", "Price", "pri ce", "ninechars", "a1", "\u00e9", "price\n", b"price", (), [], {},
    set(), object(), [[]], LIST_OF_A_WORD, TUPLE_OF_A_WORD, {"price": []}, ("price", ["x"]), Hostile(), [Hostile()],
    Net,
]


def drain(net):
    """Deliver the first message of the first link until there is none."""
    got = []
    while True:
        waiting = list(net.links())
        if not waiting:
            return got
        got.append(net.deliver(*waiting[0]))


def tree(*rows, keys=("price",), drained=True):
    """A net with nodes (name, parent, allowance or allowances in the order of the keys)."""
    net = Net(keys)
    for name, parent, slack in rows:
        slacks = slack if isinstance(slack, tuple) else (slack,) * len(keys)
        net.join(name, parent, dict(zip(keys, slacks)))
        if drained:
            drain(net)
    return net


def deliver_all(net, sender, receiver):
    """Deliver the messages of one link that it has now."""
    return [net.deliver(sender, receiver) for _ in net.messages(sender, receiver)]


def inner(obj):
    """Everything in an object, in a form that can be compared, with the order of all dicts."""
    if isinstance(obj, dict):
        return ["dict"] + [(inner(key), inner(obj[key])) for key in obj]
    if isinstance(obj, (list, tuple)):
        return [type(obj).__name__] + [inner(item) for item in obj]
    if hasattr(obj, "__dict__") and not isinstance(obj, type):
        # The nodes of a net lead back to it.
        return [type(obj).__name__, inner({name: vars(obj)[name] for name in vars(obj) if name != "home"})]
    return (type(obj).__name__, obj)


def cell(cache, key):
    if key not in cache:
        return None
    return (cache[key], cache.allowance(key), cache.told(key), cache.bound(key))


def answers(net):
    found = []
    while True:
        try:
            found.append(net.answer(len(found) + 1))
        except CacheError:
            return found


def picture(net):
    """Everything that a net shows."""
    rows = []
    for name in net.names:
        cache = net[name]
        cells = [cell(cache, key) for key in net.key_names]
        entries = [cache.entry(child, key) for child in cache.children for key in net.key_names]
        rows.append((name, cache.parent, cache.children, len(cache), cells, entries))
    sent = [(link, net.messages(*link)) for link in net.links()]
    waiting = [(net.number(key), net.waiting(key)) for key in net.key_names]
    return [net.key_names, rows, sent, waiting, net.order, answers(net), net.history, len(net)]


def check_raised(case, error, fields, call, *args, **more):
    """Check that a call raises just this error, with these very objects."""
    caught = None
    try:
        call(*args, **more)
    except CacheError as raised:
        caught = raised
    case.assertIs(type(caught), error)
    case.assertEqual(sorted(vars(caught)), sorted(fields))
    for field, given in fields.items():
        found = vars(caught)[field]
        if found is not given:
            case.assertIs(type(found), type(given))
            case.assertEqual(found, given)


def check_refused(case, net, error, fields, call, *args, **more):
    """Check that a call raises just this error, with these very objects, and changes nothing."""
    before = (picture(net), inner(net))
    check_raised(case, error, fields, call, *args, **more)
    case.assertEqual((picture(net), inner(net)), before)
