"""What the tests of several modules ask of refusals."""

import unittest


class Refusing(unittest.TestCase):
    def refuses(self, kind, call, *told, **named):
        """The call is refused with just this class."""
        with self.subTest(told=told, named=named):
            with self.assertRaises(kind) as caught:
                call(*told, **named)
            self.assertEqual(type(caught.exception), kind)
