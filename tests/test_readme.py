import re
import unittest

from pathlib import Path

README = Path(__file__).resolve().parent.parent / "README.md"


class Readme(unittest.TestCase):
    def test_examples_hold(self):
        blocks = re.findall(r"```python\n(.*?)```", README.read_text(encoding="utf-8"), re.S)
        self.assertGreater(len(blocks), 0)
        for block in blocks:
            exec(block, {})


if __name__ == "__main__":
    unittest.main()
