import unittest

from wittspaces.errors import Fault, Malformed, NoText, Refused


class Errors(unittest.TestCase):
    def test_classes(self):
        self.assertTrue(issubclass(Fault, ValueError))
        for one in (Malformed, Refused, NoText):
            self.assertTrue(issubclass(one, Fault))
            for other in (Malformed, Refused, NoText):
                self.assertEqual(issubclass(one, other), one is other)

    def test_reason(self):
        with self.assertRaises(Refused) as caught:
            raise Refused("zero")
        self.assertEqual(caught.exception.reason, "zero")

    def test_at(self):
        for at in (0, 7):
            with self.assertRaises(NoText) as caught:
                raise NoText(at)
            self.assertEqual(caught.exception.at, at)

    def test_caught_as_fault(self):
        for error in (Malformed("x"), Refused("x"), NoText(3)):
            with self.assertRaises(Fault):
                raise error


if __name__ == "__main__":
    unittest.main()
