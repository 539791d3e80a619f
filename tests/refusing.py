"""A test case that asks for the error and for what it tells."""

import unittest


class RefusingTest(unittest.TestCase):
    def refused(self, error, what, call, *args, **more):
        """The call must raise just this error, with just this what."""
        with self.assertRaises(error) as held:
            call(*args, **more)
        self.assertIs(held.exception.__class__, error)
        self.assertEqual(held.exception.what, what)
        self.assertIs(held.exception.what.__class__, what.__class__)

    def same_kind(self, found, wished):
        """Equal, and no 0 for a False or a list for a tuple."""
        self.assertEqual(found, wished)
        self.assertIs(found.__class__, wished.__class__)
