"""What README.md shows is what the program tells."""

import pathlib
import re
import unittest

README = pathlib.Path(__file__).resolve().parent.parent / "README.md"


def blocks():
    return re.findall(r"```python\n(.*?)```", README.read_text(encoding="ascii"), re.DOTALL)


class ReadmeTest(unittest.TestCase):
    def test_each_line_tells_what_stands_behind_it(self):
        known = {}
        shown = 0
        for line in "".join(blocks()).splitlines():
            code, sign, told = line.partition("#")
            name = re.match(r"(\w+) = ", code)
            if name or not sign:
                exec(code, known)
            if sign:
                worth = known[name.group(1)] if name else eval(code, known)
                self.assertTrue(told.strip().startswith(repr(worth)), (line, worth))
                shown += 1
        self.assertGreater(shown, 10)


if __name__ == "__main__":
    unittest.main()
