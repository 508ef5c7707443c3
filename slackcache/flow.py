"""How messages travel and what they change."""

from slackcache.cache import Cache, Entry

STORE = "store"


def send_to_children(node, message):
    for row in node.entries.values():
        # What is sent to a node that has left or crashed is lost.
        if row.there:
            row.down.append(message)


def accept(net, key, value):
    """Accept a write if the entries of the store leave room for it; its number, or None."""
    top = net.top
    number = top.cells[key][2] + 1
    for row in top.entries.values():
        confirmed, granted = row.cells[key]
        if number - confirmed > granted:
            return None
    # For the store, told is its number and the allowance is 0.
    top.cells[key] = ((number, value), 0, number, None)
    net.accepted.append(key)
    net.stamps.append(len(net.done))
    send_to_children(top, ("update", key, number, value))
    return number


def accept_waiting(net, key):
    """Accept the writes that wait in their order, as long as that is possible."""
    while net.kept[key] and accept(net, key, net.kept[key][0]) is not None:
        net.kept[key] = net.kept[key][1:]


def renew(node, key, copy, allowance, told, asked):
    """Give a node a new cell, and send what it may now agree to and tell (the limit)."""
    row = node.row
    # The agree goes first, so that the limit is that of the new allowance.
    if asked is not None and node.agrees(key, asked):
        allowance = asked
        asked = None
        row.up.append(("agree", key, allowance))
    # No limit is greater than the number of the copy.
    limit = copy[0]
    if limit > told:
        for entry in node.entries.values():
            confirmed, granted = entry.cells[key]
            if granted + confirmed - allowance < limit:
                limit = granted + confirmed - allowance
        if limit > told:
            told = limit
            row.up.append(("confirm", key, limit))
    node.cells[key] = (copy, allowance, told, asked)


def settle(net, node, key):
    """Do what a change of an entry of a node makes possible."""
    if node.row is None:
        if net.kept[key]:
            accept_waiting(net, key)
    else:
        copy, allowance, told, asked = node.cells[key]
        renew(node, key, copy, allowance, told, asked)


def settle_all(net, node):
    for key in net.words:
        settle(net, node, key)


def start_child(net, node, child, row):
    """Let a child be there, and send it a copy of every key with the granted allowances."""
    cells = {}
    for key in net.words:
        number, value = node.cells[key][0]
        granted = row.cells[key][1]
        row.cells[key] = (number, granted)
        row.down.append(("copy", key, number, value, granted))
        cells[key] = None
    net.nodes[child] = Cache(net, child, node.label, row, cells)
    net.labels = tuple(net.nodes)


def add_child(net, node, child, pairs):
    """Give a node an entry for a new child, with the allowances of the pairs, and start the child."""
    row = Entry((node.label, child), (child, node.label), {})
    for key, allowance in pairs:
        row.cells[key] = (0, allowance)
    node.entries[child] = row
    node.kids = tuple(node.entries)
    net.rows[child] = row
    start_child(net, node, child, row)
    # One entry more makes nothing possible, so there is nothing to settle.


def bring_back(net, node, child):
    """Let a crashed child be there again, without copies and children."""
    row = node.entries[child]
    row.there = True
    row.crashed = False
    row.raising = ()
    start_child(net, node, child, row)
    settle_all(net, node)


def remove_entries(net, node, child):
    del node.entries[child]
    node.kids = tuple(node.entries)
    del net.rows[child]
    settle_all(net, node)


def remove_nodes(net, names):
    """Remove nodes, and lose the answers that must go back through them."""
    for name in names:
        net.nodes[name].vanish()
        del net.nodes[name]
    net.labels = tuple(net.nodes)
    for question in list(net.trails):
        if any([at in names for at in net.trails[question]]):
            del net.trails[question]


def branch(net, name):
    """The names of a node and of all nodes below it that are there."""
    found = [name]
    for at, node in net.nodes.items():
        if node.above in found:
            found.append(at)
    return found


def take_leave(net, name):
    row = net.rows[name]
    remove_nodes(net, [name])
    row.there = False
    # The messages that it has sent stay on their way; those to it are lost.
    row.down.clear()
    row.up.append(("gone",))


def take_crash(net, name):
    names = branch(net, name)
    for at in names:
        for child in net.nodes[at].kids:
            del net.rows[child]
    remove_nodes(net, names)
    row = net.rows[name]
    row.there = False
    row.crashed = True
    row.down.clear()
    row.up.clear()


def set_allowance(net, node, key, allowance):
    """Lower or raise the allowance of a node at its parent."""
    row = node.row
    confirmed, granted = row.cells[key]
    if allowance < granted:
        row.cells[key] = (confirmed, allowance)
        row.down.append(("lower", key, allowance))
        settle(net, net.nodes[node.above], key)
    elif allowance > granted:
        row.raising = row.raising + (key,)
        row.down.append(("raise", key, allowance))


def rows_from(net, node, key):
    """What the nodes from one with a copy up to the store show of a key, as in a receipt."""
    rows = []
    while node.row is not None:
        copy, allowance, told, asked = node.cells[key]
        confirmed, granted = node.row.cells[key]
        rows.append((node.label, told, allowance, confirmed, granted))
        node = net.nodes[node.above]
    return (*rows, (STORE, node.cells[key][2]))


def give(net, node, question, key, need, floor):
    """Note the receipt of the answer that a node gives, and return the answer."""
    number, value = node.cells[key][0]
    net.receipts[question] = (key, need, floor, number, rows_from(net, node, key))
    return (number, value, node.label)


def ask(net, node, key, need, floor):
    """Give a question its number, and answer it or send it to the parent."""
    question = net.questions + 1
    net.questions = question
    if node.serves(key, need, floor):
        net.answered[question] = give(net, node, question, key, need, floor)
    else:
        net.trails[question] = (node.label,)
        node.row.up.append(("question", question, key, need, floor))
    return question


def hear_question(net, node, sender, message):
    question, key, need, floor = message[1:]
    on_trail = question in net.trails
    if not node.serves(key, need, floor):
        if on_trail:
            net.trails[question] = net.trails[question] + (node.label,)
        node.row.up.append(message)
    elif on_trail:
        row = node.entries[sender]
        row.down.append(("answer", question) + give(net, node, question, key, need, floor))


def hear_answer(net, node, sender, message):
    question = message[1]
    if question not in net.trails:
        return
    # The node at which the answer arrives stands on the trail until now, so that
    # the answer is lost if the node goes before.
    trail = net.trails[question][:-1]
    if trail:
        net.trails[question] = trail
        row = node.entries[trail[-1]]
        row.down.append(message)
    else:
        del net.trails[question]
        net.answered[question] = message[2:]


def hear_copy(net, node, sender, message):
    key, number, value, allowance = message[1:]
    renew(node, key, (number, value), allowance, number, None)


def hear_update(net, node, sender, message):
    key = message[1]
    copy, allowance, told, asked = node.cells[key]
    if node.entries:
        send_to_children(node, message)
    renew(node, key, message[2:], allowance, told, asked)


def hear_lower(net, node, sender, message):
    key = message[1]
    copy, allowance, told, asked = node.cells[key]
    renew(node, key, copy, message[2], told, asked)


def hear_raise(net, node, sender, message):
    key = message[1]
    copy, allowance, told, asked = node.cells[key]
    renew(node, key, copy, allowance, told, message[2])


def hear_confirm(net, node, sender, message):
    key = message[1]
    row = node.entries[sender]
    row.cells[key] = (message[2], row.cells[key][1])
    settle(net, node, key)


def hear_agree(net, node, sender, message):
    key = message[1]
    row = node.entries[sender]
    row.cells[key] = (row.cells[key][0], message[2])
    row.raising = tuple([word for word in row.raising if word != key])
    settle(net, node, key)


def hear_gone(net, node, sender, message):
    remove_entries(net, node, sender)


# What a message does at the node at which it arrives.
ARRIVALS = {
    "copy": hear_copy,
    "update": hear_update,
    "lower": hear_lower,
    "raise": hear_raise,
    "answer": hear_answer,
    "confirm": hear_confirm,
    "agree": hear_agree,
    "question": hear_question,
    "gone": hear_gone,
}
