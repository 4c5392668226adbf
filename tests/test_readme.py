"""The examples of the README print what stands behind them."""

import contextlib
import io
import os
import re
import unittest

README = os.path.join(os.path.dirname(os.path.dirname(os.path.abspath(__file__))), "README.md")


class ReadmeTest(unittest.TestCase):
    """Each block of Python."""

    def test_examples(self):
        with open(README, encoding="utf-8") as file:
            blocks = re.findall(r"```python\n(.*?)```", file.read(), re.DOTALL)
        self.assertEqual(3, len(blocks))
        for block in blocks:
            printed = io.StringIO()
            with contextlib.redirect_stdout(printed):
                exec(block, {})  # pylint: disable=exec-used
            told = [line[2:] for line in block.split("\n") if line.startswith("# ")]
            self.assertEqual(told, printed.getvalue().split("\n")[:-1])


if __name__ == "__main__":
    unittest.main()
