"""The examples of the interface, word for word."""

import doctest
import os
import re
import unittest

README = os.path.join(os.path.dirname(os.path.dirname(os.path.abspath(__file__))), "README.md")

NET_WAITS = """
>>> from slackcache.net import Net
>>> net = Net(['price'])
>>> net.join('north', 'store', {'price': 2})
>>> message = net.deliver('store', 'north')
>>> numbers = [net.write('price', 5), net.write('price', 7), net.write('price', 9)]
>>> [numbers, net.waiting('price'), net.age('north', 'price'), list(net.links())]
[[1, 2, None], [9], 2, [('store', 'north')]]
"""

NET_ASKS = """
>>> from slackcache.net import Net
>>> net = Net(['price'])
>>> net.join('north', 'store', {'price': 2})
>>> message = net.deliver('store', 'north')
>>> question = net.read('north', 'price', 1)
>>> messages = [net.deliver('north', 'store'), net.deliver('store', 'north')]
>>> [net.answer(question), net.answer(net.read('north', 'price', 2)), len(net.history)]
[(0, 0, 'store'), (0, 0, 'north'), 6]
"""

CACHE_SHOWS = """
>>> from slackcache.net import Net
>>> net = Net(['price'])
>>> net.join('north', 'store', {'price': 3})
>>> messages = [net.deliver('store', 'north'), net.write('price', 5), net.deliver('store', 'north')]
>>> north = net['store'] >> 'north'
>>> [north['price'], north.told('price'), north.bound('price'), net['store'].entry('north', 'price'), 'size' in north]
[(1, 5), 1, 3, (0, 3), False]
"""


CUTS = """
>>> from slackcache.cuts import Cut, find_bar
>>> order = ('price', 'price', 'size', 'price')
>>> cut = Cut(order, {'price': 3, 'size': 0})
>>> [cut.spread, cut.nearest, cut.seen, sorted(find_bar(cut)), cut.distance(0), Cut(order, {'price': 2, 'size': 1}).seen]
[1, 2, None, ['price', 'size'], 3, (3, 3)]
"""

SESSIONS = """
>>> from slackcache.net import Net
>>> from slackcache.sessions import Session
>>> net = Net(['price'])
>>> net.join('north', 'store', {'price': 2})
>>> message = net.deliver('store', 'north')
>>> session = Session(net)
>>> number = session.write('price', 5)
>>> session.move('north')
>>> question = session.read('price', 9)
>>> early = session.take(question)
>>> messages = [net.deliver('north', 'store'), net.deliver('store', 'north'), net.deliver('store', 'north')]
>>> [early, session.take(question), session.floor('price'), session.pending]
[None, (1, 5), 1, ()]
"""

RECEIPTS = """
>>> from slackcache.net import Net
>>> from slackcache.receipts import judge, shown_age, receipt_of
>>> net = Net(['price'])
>>> net.join('north', 'store', {'price': 2})
>>> message = net.deliver('store', 'north')
>>> numbers = [net.write('price', 5), net.read('north', 'price', 2)]
>>> receipt = receipt_of(net, 1)
>>> [receipt, judge(receipt), shown_age(receipt), judge(receipt[:3] + (9,) + receipt[4:])]
[('price', 2, 0, 0, (('north', 0, 2, 0, 2), ('store', 1))), True, 2, False]
"""

LOGBOOK = """
>>> from slackcache.logbook import Logbook, first_wrong
>>> book = Logbook(['price'])
>>> results = [book.act(('join', 'north', 'store', (('price', 2),))), book.act(('copy', 'north', 'price')), book.act(('write', 'price', 4))]
>>> log = book.noted
>>> [results, first_wrong(['price'], log), first_wrong(['price'], log[:2] + [(('write', 'price', 4), 2)])]
[[None, ('error', 'NoCopy'), 1], None, 2]
"""


def run_example(case, text):
    example = doctest.DocTestParser().get_doctest(text, {}, "example", None, 0)
    report = []
    result = doctest.DocTestRunner(verbose=False).run(example, out=report.append)
    case.assertGreater(result.attempted, 3)
    case.assertEqual(result.failed, 0, "".join(report))


class ExampleTest(unittest.TestCase):
    def test_writes_and_a_write_that_waits(self):
        run_example(self, NET_WAITS)

    def test_reads_at_once_and_through_the_store(self):
        run_example(self, NET_ASKS)

    def test_cache(self):
        run_example(self, CACHE_SHOWS)

    def test_cuts(self):
        run_example(self, CUTS)

    def test_sessions(self):
        run_example(self, SESSIONS)

    def test_receipts(self):
        run_example(self, RECEIPTS)

    def test_logbook(self):
        run_example(self, LOGBOOK)

    def test_the_readme(self):
        with open(README, encoding="utf-8") as file:
            blocks = re.findall(r"```\n(>>> .*?)```", file.read(), re.DOTALL)
        self.assertGreater(len(blocks), 1)
        run_example(self, "\n".join(blocks))


if __name__ == "__main__":
    unittest.main()
