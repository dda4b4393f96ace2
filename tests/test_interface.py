import inspect
import unittest

from twighall import changing, counting, reading, things, writing


class Interface(unittest.TestCase):
    def assert_arguments(self, asked, names):
        parameters = inspect.signature(asked).parameters.values()
        self.assertEqual([parameter.name for parameter in parameters], names)
        for parameter in parameters:
            self.assertEqual(parameter.kind, inspect.Parameter.POSITIONAL_OR_KEYWORD)
            self.assertIs(parameter.default, inspect.Parameter.empty)

    def test_things(self):
        self.assert_arguments(things.is_ground, ["thing"])
        self.assert_arguments(things.is_tree, ["thing", "ground"])
        self.assert_arguments(things.is_plain_tree, ["thing", "many"])
        self.assert_arguments(things.joined, ["ground", "some"])

    def test_writing(self):
        self.assert_arguments(writing.written, ["ground"])

    def test_reading(self):
        self.assert_arguments(reading.read, ["text"])

    def test_counting(self):
        self.assert_arguments(counting.trees, ["ground"])
        self.assert_arguments(counting.count_trees, ["ground"])

    def test_changing(self):
        self.assert_arguments(changing.without, ["ground", "line"])
        self.assert_arguments(changing.together, ["ground", "line"])
        self.assert_arguments(changing.whole, ["many"])
        self.assert_arguments(changing.bridges, ["ground"])


if __name__ == "__main__":
    unittest.main()
