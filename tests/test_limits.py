"""keptlikes.limits: the four limits."""

import unittest

from keptlikes import limits


class Limits(unittest.TestCase):
    def test_each_limit(self):
        named = {"MOST_THINGS": 9, "MOST_TRIED": 7, "MOST_ROWS": 20, "MOST_LETTERS": 20}
        for name, number in named.items():
            with self.subTest(name=name):
                self.assertEqual(getattr(limits, name), number)
                self.assertIs(type(getattr(limits, name)), int)


if __name__ == "__main__":
    unittest.main()
