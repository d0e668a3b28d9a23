import unittest

from fewchecks import errors
from fewchecks.errors import NetError, NoNet

REFUSALS = ("NoPlace", "NoLetter", "NoCheck", "NoDeed", "NoNet", "NoText", "NotFormed")


class ErrorsTest(unittest.TestCase):
    def test_net_error_is_a_value_error(self):
        self.assertTrue(issubclass(NetError, ValueError))

    def test_each_refusal_is_a_net_error(self):
        for name in REFUSALS:
            with self.subTest(name):
                self.assertTrue(issubclass(getattr(errors, name), NetError))

    def test_no_refusal_stands_under_another(self):
        for name in REFUSALS:
            for other in REFUSALS:
                if name != other:
                    with self.subTest(name=name, other=other):
                        self.assertFalse(issubclass(getattr(errors, name), getattr(errors, other)))

    def test_net_error_stands_under_no_refusal(self):
        for name in REFUSALS:
            with self.subTest(name):
                self.assertFalse(issubclass(NetError, getattr(errors, name)))

    def test_refusals_are_raised_with_words_and_without(self):
        for name in REFUSALS:
            if name != "NoNet":
                for given in ((), ("words",)):
                    with self.subTest(name=name, given=given), self.assertRaises(NetError):
                        raise getattr(errors, name)(*given)

    def test_no_net_has_its_place(self):
        for place in (0, 7, 399):
            with self.assertRaises(NetError) as caught:
                raise NoNet(place)
            self.assertEqual(caught.exception.place, place)


if __name__ == "__main__":
    unittest.main()
