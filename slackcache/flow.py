"""How messages travel and what they change."""

from slackcache.state import STORE, Entry, Node


def send(state, sender, receiver, message):
    # What is sent to a node that has left or crashed is lost.
    if receiver not in state.nodes:
        return
    link = (sender, receiver)
    if link not in state.queues:
        state.queues[link] = []
    state.queues[link].append(message)


def send_to_children(state, name, message):
    for child in state.nodes[name].entries:
        send(state, name, child, message)


def send_copies(state, name, child):
    """Send a child a copy of every key with the allowances that are granted to it."""
    node = state.nodes[name]
    for key in state.words:
        number, value = node.copies[key]
        send(state, name, child, ("copy", key, number, value, node.entries[child].granted[key]))


def has_room(state, key):
    """Whether the entries of the store allow one more write."""
    store = state.store()
    number = store.version(key) + 1
    return all([number - entry.confirmed[key] <= entry.granted[key] for entry in store.entries.values()])


def accept(state, key, value):
    number = state.store().version(key) + 1
    # For the store, told is its number and the allowance is 0.
    state.store().take_copy(key, number, value, 0)
    state.accepted.append(key)
    send_to_children(state, STORE, ("update", key, number, value))
    return number


def agree(state, name, key):
    """Agree to a raise if the node is asked to and can."""
    node = state.nodes[name]
    if key in node.asked and node.agrees(key, node.asked[key]):
        allowance = node.asked.pop(key)
        node.slacks[key] = allowance
        send(state, name, node.above, ("agree", key, allowance))


def confirm(state, name, key):
    """Tell the parent the limit if it is greater than what was told."""
    node = state.nodes[name]
    number = node.sayable(key)
    if number > node.reported[key]:
        node.reported[key] = number
        send(state, name, node.above, ("confirm", key, number))


def settle(state, name, key):
    """Do what a change of a copy, an allowance or an entry of a node makes possible."""
    if name == STORE:
        while state.kept[key] and has_room(state, key):
            accept(state, key, state.kept[key].pop(0))
    else:
        # The agree goes first, so that the limit is that of the new allowance.
        agree(state, name, key)
        confirm(state, name, key)


def settle_all(state, name):
    for key in state.words:
        settle(state, name, key)


def add_child(state, name, child, allowances):
    node = state.nodes[name]
    state.nodes[child] = Node(name)
    numbers = {key: node.version(key) for key in state.words}
    node.entries[child] = Entry(numbers, allowances)
    send_copies(state, name, child)
    settle_all(state, name)


def bring_back(state, name, child):
    """Let a crashed child be there again, without copies and children."""
    node = state.nodes[name]
    state.nodes[child] = Node(name)
    entry = node.entries[child]
    entry.crashed = False
    entry.raising = {}
    for key in state.words:
        entry.confirmed[key] = node.version(key)
    send_copies(state, name, child)
    settle_all(state, name)


def remove_entries(state, name, child):
    del state.nodes[name].entries[child]
    settle_all(state, name)


def remove_nodes(state, names):
    """Remove nodes, and lose the answers that must go back through them."""
    for name in names:
        del state.nodes[name]
    for question in list(state.trails):
        if any([at in names for at in state.trails[question]]):
            del state.trails[question]


def take_leave(state, name):
    parent = state.nodes[name].above
    remove_nodes(state, [name])
    # The messages that it has sent stay on their way; those to it are lost.
    link = (parent, name)
    if link in state.queues:
        del state.queues[link]
    send(state, name, parent, ("gone",))


def take_crash(state, name):
    names = state.branch(name)
    state.nodes[state.nodes[name].above].entries[name].crashed = True
    remove_nodes(state, names)
    for link in list(state.queues):
        if link[0] in names or link[1] in names:
            del state.queues[link]


def ask(state, name, key, need, floor):
    """Give a question its number, and answer it or send it to the parent."""
    state.questions += 1
    question = state.questions
    node = state.nodes[name]
    if node.serves(key, need, floor):
        state.answered[question] = node.copies[key] + (name,)
    else:
        state.trails[question] = [name]
        send(state, name, node.above, ("question", question, key, need, floor))
    return question


def take_question(state, name, message):
    question, key, need, floor = message[1:]
    node = state.nodes[name]
    on_trail = question in state.trails
    if not node.serves(key, need, floor):
        if on_trail:
            state.trails[question].append(name)
        send(state, name, node.above, message)
    elif on_trail:
        receiver = state.trails[question][-1]
        send(state, name, receiver, ("answer", question) + node.copies[key] + (name,))


def take_answer(state, name, message):
    question = message[1]
    if question not in state.trails:
        return
    trail = state.trails[question]
    # The node at which the answer arrives stands on the trail until now, so that
    # the answer is lost if the node goes before.
    trail.pop()
    if trail:
        send(state, name, trail[-1], message)
    else:
        del state.trails[question]
        state.answered[question] = message[2:]


def take_from_parent(state, name, message):
    """Let a node get a message about a key from its parent."""
    node = state.nodes[name]
    kind, key = message[:2]
    if kind == "copy":
        number, value, allowance = message[2:]
        node.take_copy(key, number, value, allowance)
    elif kind == "update":
        node.copies[key] = message[2:]
        send_to_children(state, name, message)
    elif kind == "lower":
        node.slacks[key] = message[2]
    else:
        node.asked[key] = message[2]
    settle(state, name, key)


def take_from_child(state, name, child, message):
    """Let a node get a message about a key from its child."""
    entry = state.nodes[name].entries[child]
    kind, key, worth = message
    if kind == "confirm":
        entry.confirmed[key] = worth
    else:
        entry.granted[key] = worth
        del entry.raising[key]
    settle(state, name, key)


def take(state, sender, receiver, message):
    """Let a message arrive."""
    match message[0]:
        case "question":
            take_question(state, receiver, message)
        case "answer":
            take_answer(state, receiver, message)
        case "gone":
            remove_entries(state, receiver, sender)
        case "confirm" | "agree":
            take_from_child(state, receiver, sender, message)
        case _:
            take_from_parent(state, receiver, message)
