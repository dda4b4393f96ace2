import inspect
import unittest

from twighall import changing, counting, lightest, middles, reading, things, ways, words, writing


class Interface(unittest.TestCase):
    def assert_arguments(self, asked, names):
        parameters = inspect.signature(asked).parameters.values()
        self.assertEqual([parameter.name for parameter in parameters], names)
        for parameter in parameters:
            self.assertEqual(parameter.kind, inspect.Parameter.POSITIONAL_OR_KEYWORD)
            self.assertIs(parameter.default, inspect.Parameter.empty)

    def test_things(self):
        self.assert_arguments(things.is_ground, ["thing"])
        self.assert_arguments(things.is_tree, ["thing", "ground"])
        self.assert_arguments(things.is_plain_tree, ["thing", "many"])
        self.assert_arguments(things.joined, ["ground", "some"])

    def test_writing(self):
        self.assert_arguments(writing.written, ["ground"])

    def test_reading(self):
        self.assert_arguments(reading.read, ["text"])

    def test_counting(self):
        self.assert_arguments(counting.trees, ["ground"])
        self.assert_arguments(counting.count_trees, ["ground"])

    def test_changing(self):
        self.assert_arguments(changing.without, ["ground", "line"])
        self.assert_arguments(changing.together, ["ground", "line"])
        self.assert_arguments(changing.whole, ["many"])
        self.assert_arguments(changing.bridges, ["ground"])

    def test_ways(self):
        self.assert_arguments(ways.way, ["ground", "tree", "one", "other"])
        self.assert_arguments(ways.swaps, ["ground", "tree", "line"])
        self.assert_arguments(ways.steps, ["ground", "first", "last"])

    def test_lightest(self):
        self.assert_arguments(lightest.length_of, ["ground", "some"])
        self.assert_arguments(lightest.lightest, ["ground"])
        self.assert_arguments(lightest.is_only, ["ground"])

    def test_words(self):
        self.assert_arguments(words.word_of, ["tree", "many"])
        self.assert_arguments(words.tree_of, ["word", "many"])

    def test_middles(self):
        self.assert_arguments(middles.apart, ["tree", "many", "one", "other"])
        self.assert_arguments(middles.middles, ["tree", "many"])
        self.assert_arguments(middles.longest, ["tree", "many"])


if __name__ == "__main__":
    unittest.main()
