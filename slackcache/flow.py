"""How messages travel and what they change."""

from slackcache.cache import Cache
from slackcache.state import Entry


def send_to_children(node, message):
    for entry in node.entries.values():
        # What is sent to a node that has left or crashed is lost.
        if entry.there:
            entry.down.append(message)


def accept(state, key, value):
    """Accept a write if the entries of the store leave room for it; its number, or None."""
    top = state.top
    # For the store, told is its number and the allowance is 0.
    number = top.reported[key] + 1
    for entry in top.entries.values():
        if number - entry.confirmed[key] > entry.granted[key]:
            return None
    top.reported[key] = number
    top.copies[key] = (number, value)
    state.accepted.append(key)
    send_to_children(top, ("update", key, number, value))
    return number


def agree(node, key):
    """Agree to a raise if the node can."""
    allowance = node.asked[key]
    if node.agrees(key, allowance):
        del node.asked[key]
        node.slacks[key] = allowance
        node.row.up.append(("agree", key, allowance))


def settle(state, node, key):
    """Do what a change of a copy, an allowance or an entry of a node makes possible."""
    if node.row is None:
        waiting = state.kept[key]
        while waiting and accept(state, key, waiting[0]) is not None:
            waiting.pop(0)
        return
    # The agree goes first, so that the limit is that of the new allowance.
    if key in node.asked:
        agree(node, key)
    told = node.reported[key]
    number = node.copies[key][0]
    # No limit is greater than the number of the copy.
    if number > told:
        if node.entries:
            number = node.sayable(key)
        if number > told:
            node.reported[key] = number
            node.row.up.append(("confirm", key, number))


def settle_all(state, node):
    for key in state.words:
        settle(state, node, key)


def start_child(state, node, child, row):
    """Let a child be there, and send it a copy of every key with the granted allowances."""
    state.nodes[child] = Cache(state.home, child, node.label, row)
    for key in state.words:
        number, value = node.copies[key]
        row.confirmed[key] = number
        row.down.append(("copy", key, number, value, row.granted[key]))


def add_child(state, node, child, granted):
    row = Entry(granted)
    node.entries[child] = row
    state.lay_links(node.label, child, row)
    start_child(state, node, child, row)
    # One entry more makes nothing possible, so there is nothing to settle.


def bring_back(state, node, child):
    """Let a crashed child be there again, without copies and children."""
    row = node.entries[child]
    row.there = True
    row.crashed = False
    row.raising.clear()
    start_child(state, node, child, row)
    settle_all(state, node)


def remove_entries(state, node, child):
    del node.entries[child]
    state.cut_links(node.label, child)
    settle_all(state, node)


def remove_nodes(state, names):
    """Remove nodes, and lose the answers that must go back through them."""
    for name in names:
        node = state.nodes[name]
        node.gone = True
        del state.nodes[name]
    for question in list(state.trails):
        if any([at in names for at in state.trails[question]]):
            del state.trails[question]


def take_leave(state, name):
    row = state.nodes[name].row
    remove_nodes(state, [name])
    row.there = False
    # The messages that it has sent stay on their way; those to it are lost.
    row.down.clear()
    row.up.append(("gone",))


def take_crash(state, name):
    row = state.nodes[name].row
    names = state.branch(name)
    for at in names:
        for child in state.nodes[at].entries:
            state.cut_links(at, child)
    remove_nodes(state, names)
    row.there = False
    row.crashed = True
    row.down.clear()
    row.up.clear()


def give(state, node, question, key, need, floor):
    """Note the receipt of the answer that a node gives, and return the answer."""
    number, value = node.copies[key]
    state.receipts[question] = (key, need, floor, number, state.rows_from(node, key))
    return (number, value, node.label)


def ask(state, node, key, need, floor):
    """Give a question its number, and answer it or send it to the parent."""
    question = state.questions + 1
    state.questions = question
    if node.serves(key, need, floor):
        state.answered[question] = give(state, node, question, key, need, floor)
    else:
        state.trails[question] = [node.label]
        node.row.up.append(("question", question, key, need, floor))
    return question


def hear_question(state, node, sender, message):
    question, key, need, floor = message[1:]
    on_trail = question in state.trails
    if not node.serves(key, need, floor):
        if on_trail:
            state.trails[question].append(node.label)
        node.row.up.append(message)
    elif on_trail:
        answer = give(state, node, question, key, need, floor)
        node.entries[sender].down.append(("answer", question) + answer)


def hear_answer(state, node, sender, message):
    question = message[1]
    if question not in state.trails:
        return
    trail = state.trails[question]
    # The node at which the answer arrives stands on the trail until now, so that
    # the answer is lost if the node goes before.
    trail.pop()
    if trail:
        node.entries[trail[-1]].down.append(message)
    else:
        del state.trails[question]
        state.answered[question] = message[2:]


def hear_copy(state, node, sender, message):
    key, number, value, allowance = message[1:]
    node.take_copy(key, number, value, allowance)
    settle(state, node, key)


def hear_update(state, node, sender, message):
    key = message[1]
    node.copies[key] = message[2:]
    if node.entries:
        send_to_children(node, message)
    settle(state, node, key)


def hear_lower(state, node, sender, message):
    key = message[1]
    node.slacks[key] = message[2]
    settle(state, node, key)


def hear_raise(state, node, sender, message):
    key = message[1]
    node.asked[key] = message[2]
    settle(state, node, key)


def hear_confirm(state, node, sender, message):
    key = message[1]
    node.entries[sender].confirmed[key] = message[2]
    settle(state, node, key)


def hear_agree(state, node, sender, message):
    key = message[1]
    entry = node.entries[sender]
    entry.granted[key] = message[2]
    del entry.raising[key]
    settle(state, node, key)


def hear_gone(state, node, sender, message):
    remove_entries(state, node, sender)


# What a message does at the node at which it arrives.
ARRIVALS = {
    "copy": hear_copy,
    "update": hear_update,
    "lower": hear_lower,
    "raise": hear_raise,
    "answer": hear_answer,
    "confirm": hear_confirm,
    "agree": hear_agree,
    "question": hear_question,
    "gone": hear_gone,
}
