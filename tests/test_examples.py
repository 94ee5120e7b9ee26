import pathlib
import unittest

from tests.run_examples import blocks_of, check_block

EXAMPLES = pathlib.Path(__file__).resolve().parent / "examples.txt"


class TestExamples(unittest.TestCase):
    def test_each_example_of_the_document(self):
        blocks = blocks_of(EXAMPLES.read_text())
        self.assertEqual(len(blocks), 40)
        self.assertEqual(sum(len(block) for block in blocks), 161)
        for block in blocks:
            check_block(self, block, {})

    def test_what_the_runner_tells(self):
        text = ">>> a = 1\n>>> a + 1\n2\n\n>>> from holdtap.layouts import duals\n>>> duals(0)\nraises InvalidLayout"
        blocks = blocks_of(text)
        self.assertEqual(len(blocks), 2)
        self.assertEqual(blocks[0], [("a = 1", []), ("a + 1", ["2"])])
        check_block(self, blocks[0], {})
        with self.assertRaises(AssertionError):
            for source, told in blocks[1]:
                check_block(unittest.TestCase(), [(source, told)], {"duals": lambda value: value})


if __name__ == "__main__":
    unittest.main()
