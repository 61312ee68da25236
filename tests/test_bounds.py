"""[23] The bounds."""

from unittest import TestCase

from ordercodes import bounds
from tests.helper import same


class BoundsTest(TestCase):
    def test_the_five_bounds(self):
        told = (bounds.MAX_DEEDS, bounds.MAX_KEYS, bounds.MAX_LONG, bounds.MAX_SIGNS, bounds.MAX_WEIGHT)
        same(self, told, (20, 16, 16, 6, 1000000000000))
