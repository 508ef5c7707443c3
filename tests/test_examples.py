"""The examples of the interface, word for word."""

import doctest
import os
import re
import unittest

README = os.path.join(os.path.dirname(os.path.dirname(os.path.abspath(__file__))), "README.md")

NET_WAITS = """
>>> from slackcache.net import Net
>>> net = Net(['price'])
>>> net.join('north', 'store', {'price': 2})
>>> message = net.deliver('store', 'north')
>>> numbers = [net.write('price', 5), net.write('price', 7), net.write('price', 9)]
>>> [numbers, net.waiting('price'), net.age('north', 'price'), list(net.links())]
[[1, 2, None], [9], 2, [('store', 'north')]]
"""

NET_ASKS = """
>>> from slackcache.net import Net
>>> net = Net(['price'])
>>> net.join('north', 'store', {'price': 2})
>>> message = net.deliver('store', 'north')
>>> question = net.read('north', 'price', 1)
>>> messages = [net.deliver('north', 'store'), net.deliver('store', 'north')]
>>> [net.answer(question), net.answer(net.read('north', 'price', 2)), len(net.history)]
[(0, 0, 'store'), (0, 0, 'north'), 6]
"""

CACHE_SHOWS = """
>>> from slackcache.net import Net
>>> net = Net(['price'])
>>> net.join('north', 'store', {'price': 3})
>>> messages = [net.deliver('store', 'north'), net.write('price', 5), net.deliver('store', 'north')]
>>> north = net['store'] >> 'north'
>>> [north['price'], north.told('price'), north.bound('price'), net['store'].entry('north', 'price'), 'size' in north]
[(1, 5), 1, 3, (0, 3), False]
"""


def run_example(case, text):
    example = doctest.DocTestParser().get_doctest(text, {}, "example", None, 0)
    report = []
    result = doctest.DocTestRunner(verbose=False).run(example, out=report.append)
    case.assertGreater(result.attempted, 3)
    case.assertEqual(result.failed, 0, "".join(report))


class ExampleTest(unittest.TestCase):
    def test_writes_and_a_write_that_waits(self):
        run_example(self, NET_WAITS)

    def test_reads_at_once_and_through_the_store(self):
        run_example(self, NET_ASKS)

    def test_cache(self):
        run_example(self, CACHE_SHOWS)

    def test_the_readme(self):
        with open(README, encoding="utf-8") as file:
            blocks = re.findall(r"```\n(>>> .*?)```", file.read(), re.DOTALL)
        self.assertGreater(len(blocks), 1)
        run_example(self, "\n".join(blocks))


if __name__ == "__main__":
    unittest.main()
