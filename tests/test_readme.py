"""The examples of README.md tell what the program tells."""

import pathlib
import re
import unittest

README = pathlib.Path(__file__).resolve().parent.parent / "README.md"


class Readme(unittest.TestCase):
    def test_examples(self):
        names, checked = {}, 0
        block = re.search(r"```python\n(.*?)```", README.read_text(encoding="utf-8"), re.DOTALL).group(1)
        for line in block.splitlines():
            code, mark, written = line.partition("#")
            if mark:
                self.check(repr(eval(code, names)), written.strip().replace('"', "'"))
                checked += 1
            else:
                exec(line, names)
        self.assertLess(50, checked)

    def check(self, told, written):
        """What is written is what is told, perhaps with a remark behind a colon."""
        self.assertTrue(written == told or written.startswith(told + ": "), (told, written))
