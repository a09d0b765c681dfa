"""README.md tells what the program does: each row that tells a worth is asked."""

import pathlib
import re
import unittest

README = pathlib.Path(__file__).resolve().parent.parent / "README.md"


class ReadmeTest(unittest.TestCase):
    def test_the_examples(self):
        rows = README.read_text().split("```python\n")[1].split("```")[0].splitlines()
        known, asked = {}, 0
        for row in rows:
            code, _, told = row.partition("#")
            worth = re.match(r" (\[.*\]|\(.*\)|\".*\"|True|False|\d+(, \d+)*)(:|$)", told)
            if worth is None:
                exec(code, known)
            else:
                self.assertEqual(eval(code, known), eval(worth.group(1)), row)
                asked += 1
        self.assertGreaterEqual(asked, 65)


if __name__ == "__main__":
    unittest.main()
