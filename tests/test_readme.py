import pathlib
import unittest

from tests.run_examples import blocks_of, check_block

README = pathlib.Path(__file__).resolve().parent.parent / "README.md"


class TestReadme(unittest.TestCase):
    def test_the_examples(self):
        names = {}
        blocks = blocks_of(README.read_text())
        self.assertGreater(len(blocks), 4)
        for block in blocks:
            check_block(self, block, names)


if __name__ == "__main__":
    unittest.main()
