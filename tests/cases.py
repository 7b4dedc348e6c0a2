"""What the test cases of several points share."""
import unittest


class Case(unittest.TestCase):
    def refused(self, error, call, *arguments, **named):
        """The call raises an error of this very class with these very fields."""
        with self.subTest(error=error, call=call, arguments=arguments, named=named):
            with self.assertRaises(type(error)) as caught:
                call(*arguments, **named)
            self.assertEqual(vars(caught.exception), vars(error))
