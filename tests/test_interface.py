"""The interface: every name, argument and property stands where the document lists it."""

import importlib
import inspect
import unittest

# By modules, the functions with their arguments.
FUNCTIONS = {
    "cuts": ["find_bar(cut)", "check_bar(cut, obj)", "cut_at(net, name, keys)", "group_bound(net, name, keys)",
             "keys_to_ask(net, name, keys, need)"],
    "receipts": ["receipt_of(net, question)", "judge(obj)", "shown_age(receipt)", "moment_of_receipt(net, receipt)"],
    "logbook": ["first_wrong(keys, log)"],
    "waits": ["waits(net, key)", "freeing(net, key)", "frees(net, key, obj)", "is_settled(net)", "sharp(net, name, key)"],
    "conditions": ["parse_condition(text)"],
    "explorer": ["steps_of(net)", "shortest(net, goal, most, *, steps=None)",
                 "greatest_age(net, name, key, most, *, steps=None)"],
    "planning": ["greatest_allowances(parents, needs)", "serve(parents, needs, allowances)", "path_to(net, target)",
                 "fewest_pushes(sequence)", "check_pushes(sequence, obj)", "run_policy(sequence, policy)"],
    "scripts": ["join_scripts(one, other)", "parse_script(text)"],
    "texts": ["format_deed(deed)", "parse_deed(text, keys)", "format_history(history)", "parse_history(text, keys)",
              "format_token(token)", "parse_token(text)", "format_cut(cut)", "parse_cut(text, order)",
              "format_receipt(receipt)", "parse_receipt(text)"],
}
# By modules and classes, the methods with their arguments, and the properties.
CLASSES = {
    ("net", "Net"): (
        ["__init__(self, keys)", "join(self, name, parent, allowances)", "write(self, key, value)",
         "read(self, name, key, need, *, floor=0)", "change(self, name, key, allowance)", "deliver(self, sender, receiver)",
         "leave(self, name)", "crash(self, name)", "forget(self, name)", "recover(self, name)", "perform(self, deed)",
         "answer(self, question)", "number(self, key)", "waiting(self, key)", "age(self, name, key)",
         "messages(self, sender, receiver)", "links(self)", "copy(self)", "__getitem__(self, at)",
         "__contains__(self, x)", "__len__(self)", "__eq__(self, other)"],
        ["key_names", "names", "history", "order"]),
    ("cache", "Cache"): (
        ["allowance(self, key)", "told(self, key)", "bound(self, key)", "can_answer(self, key, need, *, floor=0)",
         "entry(self, child, key)", "__getitem__(self, at)", "__contains__(self, x)", "__len__(self)",
         "__rshift__(self, other)", "__eq__(self, other)"],
        ["name", "parent", "children"]),
    ("cuts", "Cut"): (
        ["__init__(self, order, numbers)", "distance(self, moment)", "__or__(self, other)", "__and__(self, other)",
         "__eq__(self, other)", "__len__(self)"],
        ["order", "numbers", "spread", "nearest", "seen"]),
    ("sessions", "Token"): (
        ["__init__(self, floors)", "__getitem__(self, at)", "__or__(self, other)", "__eq__(self, other)",
         "__bool__(self)"],
        ["floors"]),
    ("sessions", "Session"): (
        ["__init__(self, net)", "move(self, name)", "write(self, key, value)", "read(self, key, need)",
         "take(self, question)", "floor(self, key)", "token(self)", "hand(self, token)"],
        ["place", "pending"]),
    ("logbook", "Logbook"): (["__init__(self, keys)", "act(self, act)", "__len__(self)"], ["noted"]),
    ("conditions", "Condition"): (
        ["__call__(self, net)", "__and__(self, other)", "__or__(self, other)", "__invert__(self)", "__eq__(self, other)"],
        ["text"]),
    ("scripts", "Script"): (["run(self, net)", "__eq__(self, other)"], ["text"]),
    ("scripts", "Report"): ([], ["deeds", "failed", "stopped", "lines"]),
    ("desk", "Desk"): (
        ["__init__(self)", "create(self, user, name, keys)", "fork(self, user, name, new)", "drop(self, user, name)",
         "do(self, user, name, deed)", "run(self, user, name, script)", "undo(self, user, name)", "redo(self, user, name)",
         "attempt(self, user, name, visit)", "twin(self, name)", "users(self, name)", "first_difference(self, one, other)",
         "__contains__(self, x)", "__len__(self)"],
        ["names"]),
    ("console", "Console"): (["__init__(self)", "execute(self, line)"], []),
}


def signature(call):
    return call.__name__ + str(inspect.signature(call))


class InterfaceTest(unittest.TestCase):
    def test_functions(self):
        for name, wanted in FUNCTIONS.items():
            module = importlib.import_module("slackcache." + name)
            for text in wanted:
                call = getattr(module, text.split("(")[0])
                self.assertEqual(signature(call), text)
                self.assertEqual(call.__module__, module.__name__)

    def test_methods_and_properties_stand_in_the_class_itself(self):
        for (module, name), (methods, properties) in CLASSES.items():
            found = getattr(importlib.import_module("slackcache." + module), name)
            self.assertEqual(found.__module__, "slackcache." + module)
            for text in methods:
                self.assertEqual(signature(vars(found)[text.split("(")[0]]), text)
            for text in properties:
                self.assertIsInstance(vars(found)[text], property)
        replay = vars(getattr(importlib.import_module("slackcache.net"), "Net"))["replay"]
        self.assertIsInstance(replay, classmethod)
        self.assertEqual(str(inspect.signature(replay.__func__)), "(cls, keys, history)")

    def test_generators(self):
        for module, path in (("net", ("Net", "links")), ("waits", ("waits",)), ("desk", ("Desk", "users"))):
            found = importlib.import_module("slackcache." + module)
            for name in path:
                found = getattr(found, name)
            self.assertTrue(inspect.isgeneratorfunction(found))

    def test_class_values(self):
        self.assertEqual(importlib.import_module("slackcache.net").Net.MOST, 12)
        self.assertEqual(importlib.import_module("slackcache.desk").Desk.MOST, 8)


if __name__ == "__main__":
    unittest.main()
