"""The examples of README.md."""

import doctest
import pathlib
import re
import unittest


class Readme(unittest.TestCase):
    def test_examples(self):
        text = (pathlib.Path(__file__).parent.parent / "README.md").read_text()
        blocks = "\n".join(re.findall(r"```\n(.*?)```", text, re.S))
        told = doctest.DocTestParser().get_doctest(blocks, {}, "README.md", None, 0)
        result = doctest.DocTestRunner(verbose=False).run(told)
        self.assertEqual(result.failed, 0)
        self.assertGreater(result.attempted, 20)


if __name__ == "__main__":
    unittest.main()
