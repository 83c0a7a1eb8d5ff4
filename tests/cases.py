"""What the test cases of several modules share."""

import inspect
import time
import unittest

from payorder.errors import NotOrderable
from plain import is_ring
from samples import leaves_arguments, same


class Case(unittest.TestCase):
    def assert_same(self, found, expected):
        self.assertTrue(same(found, expected), f"{found!r} is not {expected!r}")

    def assert_raises(self, kind, attributes, call, *arguments):
        """The call raises just this exception, with these attributes and no others."""
        with self.subTest(call=call.__name__, arguments=repr(arguments)[:200]):
            with self.assertRaises(ValueError) as context:
                call(*arguments)
            self.assertIs(type(context.exception), kind)
            found = vars(context.exception)
            self.assertEqual(sorted(found), sorted(attributes))
            for name, expected in attributes.items():
                self.assertIs(found[name], expected)

    def assert_not_orderable(self, call, table, *arguments):
        with self.subTest(call=call.__name__, table=table):
            with self.assertRaises(ValueError) as context:
                call(table, *arguments)
            self.assertIs(type(context.exception), NotOrderable)
            self.assertEqual(list(vars(context.exception)), ["ring"])
            self.assert_ring(table, context.exception.ring)

    def assert_ring(self, table, ring):
        """The value is a ring by the words of the document, made of tuples and integers."""
        self.assertIs(type(ring), tuple)
        demands, offers = ring
        for row, many in ((demands, table[0]), (offers, len(table[1]))):
            self.assertIs(type(row), tuple)
            self.assertGreaterEqual(len(row), 3)
            self.assertEqual(len(row), len(set(row)))
            for number in row:
                self.assertIs(type(number), int)
                self.assertIn(number, range(many))
        self.assertEqual(len(demands), len(offers))
        self.assertTrue(is_ring(table, demands, offers), (table, ring))

    def assert_rejects(self, call, *arguments):
        """A checking function answers False, not something that counts as false."""
        with self.subTest(call=call.__name__, arguments=repr(arguments)[:200]):
            self.assertIs(call(*arguments), False)

    def assert_leaves(self, call, *arguments):
        with self.subTest(call=call.__name__, arguments=repr(arguments)[:200]):
            self.assertTrue(leaves_arguments(call, *arguments))

    def assert_quick(self, call, *arguments):
        """The call takes less than a second of this process's own time, whatever it returns or raises."""
        start = time.process_time()
        try:
            call(*arguments)
        except ValueError:
            pass
        self.assertLess(time.process_time() - start, 1, (call.__name__, arguments))

    def assert_interface(self, module, expected):
        for name, parameters in expected.items():
            function = getattr(module, name)
            self.assertEqual(list(inspect.signature(function).parameters), parameters)
            self.assertEqual(function.__module__, module.__name__)
