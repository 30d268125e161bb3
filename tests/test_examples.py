"""The examples of the document, as they are printed there (examples.txt)."""

import unittest
from pathlib import Path

EXAMPLES = Path(__file__).with_name("examples.txt")


def shown(error):
    """An error as the document prints it."""
    values = ", ".join(repr(part) for part in vars(error).values())
    return f"raises {type(error).__name__}({values})"


def told(line, names):
    """What a line of an example prints; None where it prints nothing."""
    try:
        code = compile(line, "example", "eval")
    except SyntaxError:
        exec(line, names)
        return None
    try:
        found = eval(code, names)
    except Exception as error:
        return shown(error)
    return None if found is None else repr(found)


class Examples(unittest.TestCase):
    def test_all_lines(self):
        many = 0
        names = {}
        lines = EXAMPLES.read_text().splitlines()
        for at, line in enumerate(lines):
            if line.startswith("# "):
                names = {}
            if not line.startswith(">>> "):
                continue
            with self.subTest(line=line):
                found = told(line[4:], names)
                if found is not None:
                    self.assertEqual(found, lines[at + 1])
                    many += 1
        self.assertEqual(many, sum(1 for line in lines if line and not line.startswith((">>>", "#"))))


if __name__ == "__main__":
    unittest.main()
