"""One node of a net: what it holds, and how it is shown."""

from slackcache.errors import NoCopy, UnknownKey, UnknownNode


class Entry:
    """What a node keeps of one child, and the messages between the two."""

    def __init__(self, down_link, up_link, cells):
        # The name of the parent, and the links to the child and from it.
        self.above = down_link[0]
        self.down_link = down_link
        self.up_link = up_link
        # By keys, the tuples (confirmed, granted).
        self.cells = cells
        # A key stands here from the raise that is sent to the agree that arrives.
        self.raising = ()
        # A child that is not there and has not crashed has left.
        self.there = True
        self.crashed = False
        # The messages to the child and those from it.
        self.down = []
        self.up = []


def copied_entry(row):
    twin = Entry(row.down_link, row.up_link, dict(row.cells))
    twin.raising = row.raising
    twin.there = row.there
    twin.crashed = row.crashed
    twin.down = list(row.down)
    twin.up = list(row.up)
    return twin


class Cache:
    """The net holds its nodes as these very objects, so that nothing is made for a look.

    A cache that was taken from a net stays with the name: when its node is gone and a
    node of this name is there again, it shows that one.
    """

    def __init__(self, home, label, above, row, cells):
        # The net, the name of the parent, and the entry there (None for the store).
        self.home = home
        self.label = label
        self.above = above
        self.row = row
        # Whether the node has left or crashed; it has no cells and no entries then.
        self.gone = False
        # By keys, the tuples (copy, allowance, told, the allowance that it was asked to agree
        # to or None), or None as long as there is no copy.
        self.cells = cells
        # By children, in the order in which they joined; and their names.
        self.entries = {}
        self.kids = ()

    def vanish(self):
        """Show nothing any more, so that looks need not ask each time whether the node is there."""
        self.gone = True
        self.cells = {}
        self.entries = {}
        self.kids = ()

    def seek(self):
        """The node of this name that is there."""
        if not self.gone:
            return self
        nodes = self.home.nodes
        if self.label not in nodes:
            raise UnknownNode(self.label)
        return nodes[self.label]

    def cell(self, key):
        """The cell of a key that this object does not have; raises the error of the look if there is none."""
        node = self.seek() if self.gone else self
        if not isinstance(key, str) or key not in node.cells:
            raise UnknownKey(key)
        if node.cells[key] is None:
            raise NoCopy(key)
        return node.cells[key]

    def copied_keys(self):
        """The keys of which there is a copy."""
        cells = self.seek().cells
        return [key for key in cells if cells[key] is not None]

    @property
    def name(self):
        return self.seek().label

    @property
    def parent(self):
        return self.seek().above

    @property
    def children(self):
        return self.seek().kids if self.gone else self.kids

    # The looks below ask the own cells first: they are those of the node unless it is gone.

    def __contains__(self, x):
        if isinstance(x, str):
            try:
                return self.cells[x] is not None
            except KeyError:
                pass
        if not self.gone:
            return False
        cells = self.seek().cells
        return isinstance(x, str) and x in cells and cells[x] is not None

    def __getitem__(self, at):
        if isinstance(at, str):
            try:
                cell = self.cells[at]
                if cell is not None:
                    return cell[0]
            except KeyError:
                pass
        return self.cell(at)[0]

    def __iter__(self):
        raise TypeError("a cache is not iterated over")

    def __len__(self):
        return len(self.copied_keys())

    def __rshift__(self, other):
        node = self.seek()
        if not isinstance(other, str) or other not in node.entries:
            raise UnknownNode(other)
        return self.home[other]

    def __eq__(self, other):
        return isinstance(other, Cache) and self.label == other.label and self.home == other.home

    def allowance(self, key):
        if isinstance(key, str):
            try:
                cell = self.cells[key]
                if cell is not None:
                    return cell[1]
            except KeyError:
                pass
        return self.cell(key)[1]

    def told(self, key):
        if isinstance(key, str):
            try:
                cell = self.cells[key]
                if cell is not None:
                    return cell[2]
            except KeyError:
                pass
        return self.cell(key)[2]

    def bound(self, key):
        cell = None
        if isinstance(key, str):
            try:
                cell = self.cells[key]
            except KeyError:
                pass
        if cell is None:
            cell = self.cell(key)
        return cell[2] + cell[1] - cell[0][0]

    def can_answer(self, key, need, *, floor=0):
        node = self.seek()
        self.home.check_key(key)
        self.home.check_need(key, need, floor)
        return node.serves(key, need, floor)

    def entry(self, child, key):
        """What the child confirmed and what is granted to it."""
        if isinstance(child, str) and isinstance(key, str):
            try:
                return self.entries[child].cells[key]
            except KeyError:
                pass
        entries = self.seek().entries
        if not isinstance(child, str) or child not in entries:
            raise UnknownNode(child)
        cells = entries[child].cells
        if not isinstance(key, str) or key not in cells:
            raise UnknownKey(key)
        return cells[key]

    def serves(self, key, need, floor):
        """Whether the node can answer this need and floor."""
        if self.cells[key] is None:
            return False
        copy, allowance, told, asked = self.cells[key]
        return copy[0] >= floor and told + allowance - copy[0] <= need

    def agrees(self, key, allowance):
        """Whether the entries leave room for this greater allowance."""
        told = self.cells[key][2]
        for row in self.entries.values():
            confirmed, granted = row.cells[key]
            if allowance > granted or told + allowance - confirmed > granted:
                return False
        return True


def copied_node(node, home):
    """A node as a node of another net, which has the entries already."""
    twin = Cache(home, node.label, node.above, None, dict(node.cells))
    if node.row is not None:
        twin.row = home.rows[node.label]
    if node.kids:
        twin.entries = {child: home.rows[child] for child in node.kids}
        twin.kids = node.kids
    return twin
