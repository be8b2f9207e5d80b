import unittest

from beadshares import bounds

BOUNDS = {
    "MAX_BOTTOM": 12,
    "MAX_CUTS": 4,
    "MAX_EDITS": 20,
    "MAX_FACTOR": 100,
    "MAX_KINDS": 4,
    "MAX_LENGTH": 10 ** 30,
    "MAX_RUNS": 6,
    "MAX_STEP": 12,
    "MAX_WEIGHT": 1000,
}


class BoundsTest(unittest.TestCase):
    def test_each_bound_is_the_document_s(self):
        for name, bound in BOUNDS.items():
            with self.subTest(name=name):
                self.assertIs(type(getattr(bounds, name)), int)
                self.assertEqual(getattr(bounds, name), bound)

    def test_there_are_no_others(self):
        names = [name for name in vars(bounds) if name.startswith("MAX_")]
        self.assertEqual(sorted(names), sorted(BOUNDS))


if __name__ == "__main__":
    unittest.main()
