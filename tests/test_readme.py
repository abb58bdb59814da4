"""What README.md shows is what the program tells."""

import re
import unittest
from pathlib import Path

README = Path(__file__).resolve().parent.parent / "README.md"
BLOCKS = re.findall(r"```python\n(.*?)```", README.read_text(), re.DOTALL)


class ReadmeTest(unittest.TestCase):
    def test_examples(self):
        seen, compared = {}, 0
        for line in "".join(BLOCKS).split("\n"):
            code, mark, told = line.partition("  # ")
            if not mark:
                exec(code, seen)
                continue
            worth = eval(code.strip(), seen)
            # A note in words is no value.
            if not re.match(r" ?[a-z]", told):
                self.assertEqual(worth, eval(told.strip(), seen), line)
                compared += 1
        self.assertGreater(compared, 15)


if __name__ == "__main__":
    unittest.main()
