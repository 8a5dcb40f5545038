"""What README.md shows is so."""

import contextlib
import io
import pathlib
import unittest

README = pathlib.Path(__file__).resolve().parent.parent / "README.md"


class Readme(unittest.TestCase):
    def test_the_example_prints_what_its_remarks_say(self):
        code = README.read_text("utf-8").split("```python\n")[1].split("```")[0]
        told = io.StringIO()
        with contextlib.redirect_stdout(told):
            exec(compile(code, "README.md", "exec"), {})
        remarks = [row[2:] for row in code.split("\n") if row.startswith("# ")]
        self.assertEqual(len(remarks), 6)
        self.assertEqual(told.getvalue().split("\n")[:6], remarks)
        self.assertEqual(told.getvalue().split("\n")[-2], "2")


if __name__ == "__main__":
    unittest.main()
