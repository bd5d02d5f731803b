import unittest

from evenkinds.errors import EvenError, NoKind, NoStep, NoText


class Errors(unittest.TestCase):
    def test_the_refusal_is_a_value_error(self):
        self.assertEqual(EvenError.__bases__, (ValueError,))

    def test_each_stands_beneath_the_refusal(self):
        for one in (NoKind, NoStep, NoText):
            self.assertEqual(one.__bases__, (EvenError,))

    def test_none_stands_beneath_another(self):
        made = (NoKind(), NoStep(0), NoText())
        for number, one in enumerate(made):
            self.assertIsInstance(one, EvenError)
            self.assertIsInstance(one, ValueError)
            for place, other in enumerate((NoKind, NoStep, NoText)):
                self.assertEqual(isinstance(one, other), number == place)

    def test_the_field(self):
        for at in (0, 1, 41):
            self.assertEqual(NoStep(at).at, at)
            self.assertEqual(NoStep(at=at).at, at)

    def test_the_field_is_set_at_making(self):
        with self.assertRaises(TypeError):
            NoStep()
        self.assertEqual(vars(NoStep(5)), {"at": 5})

    def test_raised_and_taken(self):
        for one in (NoKind(), NoStep(7), NoText()):
            with self.assertRaises(EvenError) as taken:
                raise one
            self.assertIs(taken.exception, one)


if __name__ == "__main__":
    unittest.main()
