"""What several tests have in common."""

import unittest

from kinds import same


class Case(unittest.TestCase):
    """A test that asks what is refused."""

    def refused(self, error, what, call):
        """Fails unless the call raises this very error, with this `what` and no other kind of thing that is equal."""
        with self.assertRaises(error) as caught:
            call()
        found = caught.exception.what
        self.assertIs(type(caught.exception), error)
        self.assertTrue(same(found, what), found)
        if isinstance(what, tuple):
            self.assertTrue(all(same(one, other) for one, other in zip(found, what)), found)
