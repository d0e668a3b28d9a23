"""The examples of README.md, run as they stand: behind the # of a row stands what it tells."""

import re
import unittest
from pathlib import Path

README = Path(__file__).resolve().parent.parent / "README.md"


class ReadmeTest(unittest.TestCase):
    def test_the_examples_tell_what_stands_beside_them(self):
        names = {}
        asked = 0
        for block in re.findall(r"```python\n(.*?)```", README.read_text(encoding="utf-8"), re.S):
            for row in block.split("\n"):
                code, mark, wanted = row.partition("  # ")
                if mark:
                    self.assertEqual(eval(code, names), eval(wanted.partition(", for ")[0], names), row)
                    asked += 1
                else:
                    exec(code, names)
        self.assertTrue(asked > 50)


if __name__ == "__main__":
    unittest.main()
