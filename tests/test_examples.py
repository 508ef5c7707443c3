"""The examples of the interface, word for word."""

import doctest
import os
import re
import unittest

README = os.path.join(os.path.dirname(os.path.dirname(os.path.abspath(__file__))), "README.md")

NET_WAITS = """
>>> from slackcache.net import Net
>>> net = Net(['price'])
>>> net.join('north', 'store', {'price': 2})
>>> message = net.deliver('store', 'north')
>>> numbers = [net.write('price', 5), net.write('price', 7), net.write('price', 9)]
>>> [numbers, net.waiting('price'), net.age('north', 'price'), list(net.links())]
[[1, 2, None], [9], 2, [('store', 'north')]]
"""

NET_ASKS = """
>>> from slackcache.net import Net
>>> net = Net(['price'])
>>> net.join('north', 'store', {'price': 2})
>>> message = net.deliver('store', 'north')
>>> question = net.read('north', 'price', 1)
>>> messages = [net.deliver('north', 'store'), net.deliver('store', 'north')]
>>> [net.answer(question), net.answer(net.read('north', 'price', 2)), len(net.history)]
[(0, 0, 'store'), (0, 0, 'north'), 6]
"""

CACHE_SHOWS = """
>>> from slackcache.net import Net
>>> net = Net(['price'])
>>> net.join('north', 'store', {'price': 3})
>>> messages = [net.deliver('store', 'north'), net.write('price', 5), net.deliver('store', 'north')]
>>> north = net['store'] >> 'north'
>>> [north['price'], north.told('price'), north.bound('price'), net['store'].entry('north', 'price'), 'size' in north]
[(1, 5), 1, 3, (0, 3), False]
"""


CUTS = """
>>> from slackcache.cuts import Cut, find_bar
>>> order = ('price', 'price', 'size', 'price')
>>> cut = Cut(order, {'price': 3, 'size': 0})
>>> [cut.spread, cut.nearest, cut.seen, sorted(find_bar(cut)), cut.distance(0), Cut(order, {'price': 2, 'size': 1}).seen]
[1, 2, None, ['price', 'size'], 3, (3, 3)]
"""

SESSIONS = """
>>> from slackcache.net import Net
>>> from slackcache.sessions import Session
>>> net = Net(['price'])
>>> net.join('north', 'store', {'price': 2})
>>> message = net.deliver('store', 'north')
>>> session = Session(net)
>>> number = session.write('price', 5)
>>> session.move('north')
>>> question = session.read('price', 9)
>>> early = session.take(question)
>>> messages = [net.deliver('north', 'store'), net.deliver('store', 'north'), net.deliver('store', 'north')]
>>> [early, session.take(question), session.floor('price'), session.pending]
[None, (1, 5), 1, ()]
"""

RECEIPTS = """
>>> from slackcache.net import Net
>>> from slackcache.receipts import judge, shown_age, receipt_of
>>> net = Net(['price'])
>>> net.join('north', 'store', {'price': 2})
>>> message = net.deliver('store', 'north')
>>> numbers = [net.write('price', 5), net.read('north', 'price', 2)]
>>> receipt = receipt_of(net, 1)
>>> [receipt, judge(receipt), shown_age(receipt), judge(receipt[:3] + (9,) + receipt[4:])]
[('price', 2, 0, 0, (('north', 0, 2, 0, 2), ('store', 1))), True, 2, False]
"""

LOGBOOK = """
>>> from slackcache.logbook import Logbook, first_wrong
>>> book = Logbook(['price'])
>>> results = [book.act(('join', 'north', 'store', (('price', 2),))), book.act(('copy', 'north', 'price')), book.act(('write', 'price', 4))]
>>> log = book.noted
>>> [results, first_wrong(['price'], log), first_wrong(['price'], log[:2] + [(('write', 'price', 4), 2)])]
[[None, ('error', 'NoCopy'), 1], None, 2]
"""

WAITS_FREE = """
>>> from slackcache.net import Net
>>> from slackcache.waits import freeing, sharp, waits
>>> net = Net(['price'])
>>> net.join('north', 'store', {'price': 1})
>>> net.join('south', 'store', {'price': 3})
>>> numbers = [net.write('price', 5), net.write('price', 6)]
>>> [numbers, list(waits(net, 'price')), freeing(net, 'price')]
[[1, None], [('north', 1, 'update')], [('store', 'north'), ('store', 'north'), ('north', 'store')]]
"""

WAITS_SHARP = """
>>> from slackcache.net import Net
>>> from slackcache.waits import sharp
>>> net = Net(['price'])
>>> net.join('north', 'store', {'price': 2})
>>> message = net.deliver('store', 'north')
>>> deeds = sharp(net, 'north', 'price')
>>> results = [net.perform(deed) for deed in deeds]
>>> [deeds, net.age('north', 'price'), net['north'].bound('price')]
[[('write', 'price', 0), ('write', 'price', 0)], 2, 2]
"""

CONDITIONS = """
>>> from slackcache.conditions import parse_condition
>>> from slackcache.net import Net
>>> one, other = parse_condition('number price + 1 < 3 or there north'), parse_condition('( not age north price = 0 )')
>>> [(one & other).text, (~one).text, one(Net(['price'])), other(Net(['price']))]
['( number price + 1 < 3 or there north ) and not age north price = 0', 'not ( number price + 1 < 3 or there north )', True, True]
"""

EXPLORER_SHORTEST = """
>>> from slackcache.conditions import parse_condition
>>> from slackcache.explorer import shortest
>>> from slackcache.net import Net
>>> net = Net(['price'])
>>> net.join('north', 'store', {'price': 1})
>>> [shortest(net, parse_condition('waiting price = 1'), 3), shortest(net, parse_condition('number price = 2'), 3)]
[(('write', 'price', 0), ('write', 'price', 0)), None]
"""

EXPLORER_AGE = """
>>> from slackcache.explorer import greatest_age
>>> from slackcache.net import Net
>>> net = Net(['price'])
>>> net.join('north', 'store', {'price': 1})
>>> message = net.deliver('store', 'north')
>>> greatest_age(net, 'north', 'price', 4)
(1, (('write', 'price', 0),))
"""

PLANNING = """
>>> from slackcache.planning import fewest_pushes, greatest_allowances
>>> plan = greatest_allowances({'north': 'store', 'oslo': 'north', 'rome': 'north'}, {'oslo': 4, 'rome': 2})
>>> sequence = ['write', 'write', ('read', 1), 'write', ('read', 0), 'write', ('read', 2)]
>>> [plan, fewest_pushes(sequence)[0]]
[{'north': (2, 'rome'), 'oslo': (4, 'oslo'), 'rome': (2, 'rome')}, (1, 3)]
"""

SCRIPTS = r"""
>>> from slackcache.net import Net
>>> from slackcache.scripts import parse_script
>>> script = parse_script('join north store 1\ndrain\nrepeat 2\n  write price 7\nend\nexpect waiting price = 0\ndrain\nexpect age north price = 0\nleave south')
>>> net = Net(['price'])
>>> report = script.run(net)
>>> [report.failed, report.stopped, report.lines, net.number('price')]
[(6,), (9, 'UnknownNode'), 14, 2]
"""

DESK = """
>>> from slackcache.desk import Desk
>>> desk = Desk()
>>> desk.create('ann', 'main', ['price'])
>>> number = desk.do('ann', 'main', ('write', 'price', 5))
>>> desk.fork('bob', 'main', 'copy')
>>> number = desk.do('bob', 'copy', ('write', 'price', 6))
>>> desk.undo('bob', 'copy')
>>> same = desk.first_difference('main', 'copy')
>>> number = desk.redo('bob', 'copy')
>>> [same, desk.first_difference('main', 'copy'), list(desk.users('copy')), desk.twin('main').number('price')]
[None, 1, ['ann', 'bob'], 1]
"""

TEXTS_DEED = """
>>> from slackcache.texts import format_deed, parse_deed, parse_token
>>> deed = ('join', 'north', 'store', (('price', 2), ('size', 3)))
>>> [format_deed(deed), parse_deed('join north store 2 3', ['price', 'size']) == deed, parse_token('price=4 size=2').floors]
['join north store 2 3', True, {'price': 4, 'size': 2}]
"""

TEXTS_RECEIPT = r"""
>>> from slackcache.texts import format_receipt
>>> format_receipt(('price', 2, 0, 0, (('north', 0, 2, 0, 2), ('store', 1))))
'price 2 0 0\nnorth 0 2 0 2\nstore 1'
"""

CONSOLE = """
>>> from slackcache.console import Console
>>> console = Console()
>>> lines = ['create ann main price', 'do ann main join north store 1', 'do ann main write price 5', 'do ann main write price 6', 'waits main price']
>>> [console.execute(line) for line in lines] + [console.execute('free main price'), console.execute('test main waiting price = 1')]
['ok', 'ok', '1', 'ok', 'north 1 update', 'store north; store north; north store', 'yes']
"""


def run_example(case, text):
    example = doctest.DocTestParser().get_doctest(text, {}, "example", None, 0)
    report = []
    result = doctest.DocTestRunner(verbose=False).run(example, out=report.append)
    case.assertGreater(result.attempted, 1)
    case.assertEqual(result.failed, 0, "".join(report))


class ExampleTest(unittest.TestCase):
    def test_writes_and_a_write_that_waits(self):
        run_example(self, NET_WAITS)

    def test_reads_at_once_and_through_the_store(self):
        run_example(self, NET_ASKS)

    def test_cache(self):
        run_example(self, CACHE_SHOWS)

    def test_cuts(self):
        run_example(self, CUTS)

    def test_sessions(self):
        run_example(self, SESSIONS)

    def test_receipts(self):
        run_example(self, RECEIPTS)

    def test_logbook(self):
        run_example(self, LOGBOOK)

    def test_waits_free(self):
        run_example(self, WAITS_FREE)

    def test_waits_sharp(self):
        run_example(self, WAITS_SHARP)

    def test_conditions(self):
        run_example(self, CONDITIONS)

    def test_explorer_shortest(self):
        run_example(self, EXPLORER_SHORTEST)

    def test_explorer_age(self):
        run_example(self, EXPLORER_AGE)

    def test_planning(self):
        run_example(self, PLANNING)

    def test_scripts(self):
        run_example(self, SCRIPTS)

    def test_desk(self):
        run_example(self, DESK)

    def test_texts_deed(self):
        run_example(self, TEXTS_DEED)

    def test_texts_receipt(self):
        run_example(self, TEXTS_RECEIPT)

    def test_console(self):
        run_example(self, CONSOLE)

    def test_the_readme(self):
        with open(README, encoding="utf-8") as file:
            blocks = re.findall(r"```\n(>>> .*?)```", file.read(), re.DOTALL)
        self.assertGreater(len(blocks), 1)
        run_example(self, "\n".join(blocks))


if __name__ == "__main__":
    unittest.main()
