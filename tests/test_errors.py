"""Point 20: the errors, their bases and their attributes."""

import inspect
import unittest

from shutbyrings import errors

WITHOUT = ['NoList', 'NoTuple', 'BadCount', 'BadNames', 'BadLots', 'NotPossible', 'Unlike', 'Misfit', 'TooMany']
WITH = {
    'BadSign': 'number', 'NoSign': 'name', 'BadTerm': 'value', 'BadFact': 'number', 'BadRule': 'number',
    'BadBar': 'number', 'NoRule': 'number', 'NotServed': 'tree', 'NoOrder': 'number', 'BadSeen': 'number',
    'NoFact': 'fact', 'NoMark': 'number', 'BadText': 'line',
}


class Errors(unittest.TestCase):
    def test_all_there_and_no_others(self):
        classes = [name for name, value in vars(errors).items() if inspect.isclass(value)]
        self.assertEqual(sorted(classes), sorted(WITHOUT + list(WITH) + ['RingError']))

    def test_bases(self):
        self.assertEqual(errors.RingError.__bases__, (ValueError,))
        for name in WITHOUT + list(WITH):
            self.assertEqual(getattr(errors, name).__bases__, (errors.RingError,), name)
            self.assertEqual(getattr(errors, name).__module__, 'shutbyrings.errors')

    def test_without_arguments(self):
        for name in WITHOUT:
            error = getattr(errors, name)()
            self.assertEqual(vars(error), {}, name)
            with self.assertRaises(TypeError):
                getattr(errors, name)(1)

    def test_attributes_as_handed_in(self):
        for name, attribute in WITH.items():
            for value in (3, 0, None, 'a', ('f', 'X'), [1, [2]], {'X': 1}):
                for error in (getattr(errors, name)(value), getattr(errors, name)(**{attribute: value})):
                    self.assertIs(getattr(error, attribute), value, name)
                    self.assertEqual(list(vars(error)), [attribute])

    def test_argument_is_asked_for(self):
        for name in WITH:
            with self.assertRaises(TypeError):
                getattr(errors, name)()
            with self.assertRaises(TypeError):
                getattr(errors, name)(1, 2)

    def test_caught_as_ring_error_and_shown(self):
        deep = ()
        for _ in range(100000):
            deep = (deep,)
        with self.assertRaises(errors.RingError) as caught:
            raise errors.BadTerm(deep)
        self.assertIsInstance(str(caught.exception), str)
        self.assertIsInstance(errors.NoList(), ValueError)


if __name__ == '__main__':
    unittest.main()
