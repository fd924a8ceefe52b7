"""What several tests check in the same way."""

import time
import unittest

from cursorscripts.commands import check_script
from cursorscripts.lists import check_list


class TimedCase(unittest.TestCase):
    def quickly(self, call, *arguments):
        """What a call returns; it has to return within a few seconds."""
        begin = time.monotonic()
        answer = call(*arguments)
        self.assertLess(time.monotonic() - begin, 6)
        return answer


class RaisesCase(unittest.TestCase):
    def raises(self, error, fields, call, *arguments):
        """Checks that a call raises just this error with these fields."""
        with self.assertRaises(error) as caught:
            call(*arguments)
        self.assertIs(caught.exception.__class__, error)
        self.assertEqual(vars(caught.exception), fields)


def problem_of(steps):
    """What is wrong of what is passed as a script or list, None if nothing is."""
    return check_list(steps) if isinstance(steps, list) else check_script(steps)
