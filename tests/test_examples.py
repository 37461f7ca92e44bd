"""The examples of the document: each line, with the names that blocks ahead of it set."""

import importlib
import unittest

from hardbits import errors
from tests.examples import BLOCKS


def public_names(module):
    return {name: value for name, value in vars(module).items() if not name.startswith("_")}


def raised_text(error):
    """The text by which a block tells this error: its name, and the value that it keeps."""
    kept = [repr(getattr(error, name)) for name in ("given", "wanted", "most", "reason", "at") if hasattr(error, name)]
    return f"raises {type(error).__name__}" + (f"({kept[0]})" if kept else "")


def result_text(line, names):
    try:
        return repr(eval(line, names))
    except errors.HardError as error:
        return raised_text(error)


class Examples(unittest.TestCase):

    def test_all_blocks(self):
        names, count = {}, 0
        for title, modules, text in BLOCKS:
            for module in modules:
                names.update(public_names(importlib.import_module(module)))
            lines = text.strip().split("\n")
            for k, line in enumerate(lines):
                if line.startswith(">>> "):
                    count += 1
                    with self.subTest(section=title, line=line):
                        self.check(line[4:], lines[k + 1] if k + 1 < len(lines) else ">>> ", names)
        self.assertEqual(count, 115)

    def check(self, line, following, names):
        if following.startswith(">>> "):
            exec(line, names)
        else:
            self.assertEqual(result_text(line, names), following)


if __name__ == "__main__":
    unittest.main()
