"""Why writes wait, what frees them, and how a copy becomes as old as it may."""

from slackcache.errors import NothingWaits, Unsettled


def check_waiting(net, key):
    if not net.waiting(key):
        raise NothingWaits(key)


def is_confirm(message, key, least):
    return message[0] == "confirm" and message[1] == key and message[2] >= least


def reason_of(net, child, key, least):
    """Why the parent of a child lacks a confirm of at least so much."""
    row = net.rows[child]
    if any([is_confirm(message, key, least) for message in row.up]):
        return "confirm"
    if row.crashed:
        return "crashed"
    if not row.there:
        return "gone"
    cell = net.nodes[child].cells[key]
    if cell is None or cell[0][0] < least:
        return "update"
    return "below"


def lacks_below(net, node, key, least):
    """What a node lacks to tell a number: the rows of its children, and of those below them."""
    found = []
    reach = least + node.cells[key][1]
    for child, row in node.entries.items():
        confirmed, granted = row.cells[key]
        if granted + confirmed < reach:
            reason = reason_of(net, child, key, reach - granted)
            found.append((child, reach - granted, reason))
            if reason == "below":
                found = found + lacks_below(net, net.nodes[child], key, reach - granted)
    return found


def lacks(net, key):
    """The rows of the first waiting write: what the store lacks to have its next number."""
    return lacks_below(net, net.top, key, net.number(key) + 1)


def waits(net, key):
    """The children that hold up the first waiting write, and why."""
    check_waiting(net, key)
    yield from lacks(net, key)


def is_deliverable(net, obj):
    """Whether any object is a link whose first message can be delivered."""
    return isinstance(obj, tuple) and len(obj) == 2 and bool(net.messages(obj[0], obj[1]))


def is_passed_by(net, key, number, links):
    """Whether all links can be delivered in order and the store has a greater number by then."""
    twin = net.copy()
    for link in links:
        if not is_deliverable(twin, link):
            return False
        twin.deliver(link[0], link[1])
    return twin.number(key) > number


def frees(net, key, obj):
    """Whether any object is a list of links that frees the first waiting write."""
    check_waiting(net, key)
    return isinstance(obj, list) and is_passed_by(net, key, net.number(key), obj)


def is_blocked(net, key):
    """Whether a crashed node keeps the store from its next number."""
    for row in net.rows.values():
        if row.crashed and sum(list(row.cells[key])) <= net.number(key):
            return True
    return False


def helpful_link(net, key):
    """A link whose first message is on the way to what the first waiting write lacks."""
    for child, number, reason in lacks(net, key):
        row = net.rows[child]
        if reason == "confirm" or reason == "gone":
            return row.up_link
        if reason == "update":
            return row.down_link
        # A crashed child that does not block is lacked only until its parent obeys a lower.
        if reason == "crashed" and net.rows[row.above].down:
            return net.rows[row.above].down_link
    links = list(net.links())
    return links[0]


def deliver_up_to(net, link, key):
    """Deliver the messages of a link up to the first one that speaks of a key, and return how many.

    The others leave the reasons why a write of the key waits as they are.
    """
    many = 0
    speaks = False
    while not speaks and is_deliverable(net, link):
        message = net.deliver(link[0], link[1])
        many += 1
        speaks = len(message) == 1 or message[1] == key
    return many


def all_that_helps(net, key):
    """Links that free the first waiting write; some of them may be spared."""
    twin = net.copy()
    found = []
    while twin.number(key) == net.number(key):
        link = helpful_link(twin, key)
        found = found + [link] * deliver_up_to(twin, link, key)
    return found


def thinned(net, key, links):
    """The links without those that can be left out one after the other."""
    past = net.copy()
    number = net.number(key)
    found = []
    latest = None
    for at, link in enumerate(links):
        # Of equal links one after the other, each leaves the same ones behind.
        if link != latest and is_passed_by(past, key, number, links[at + 1:]):
            latest = None
        else:
            past.deliver(link[0], link[1])
            found.append(link)
            latest = link
    return found


def freeing(net, key):
    """Links that free the first waiting write, none of which can be left out, or None."""
    check_waiting(net, key)
    if is_blocked(net, key):
        return None
    links = all_that_helps(net, key)
    fewer = thinned(net, key, links)
    # What was needed before may be spared when others are left out.
    while len(fewer) < len(links):
        links = fewer
        fewer = thinned(net, key, links)
    return links


def is_settled(net):
    """Whether no entry of a crashed node is kept and no change of an allowance is under way."""
    for row in net.rows.values():
        if row.crashed or row.raising or any([message[0] == "lower" for message in row.down]):
            return False
    return True


def sharp(net, name, key):
    """Deeds after which the copy is as many writes old as its bound was."""
    bound = net[name].bound(key)
    if not is_settled(net):
        raise Unsettled(name)
    twin = net.copy()
    deeds = []
    while twin.age(name, key) < bound:
        deed = ("write", key, 0)
        if twin.waiting(key):
            links = [link for link in twin.links() if link[1] != name]
            deed = ("deliver", links[0][0], links[0][1])
        twin.perform(deed)
        deeds.append(deed)
    return deeds
