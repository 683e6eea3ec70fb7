"""The examples of the document, where it stands beside the repository: each line gives what is shown below it."""

import importlib
import pathlib
import re
import unittest

from everychange import errors
from everychange.board import Board
from tests.test_interface import INTERFACE, listed

DOCUMENT = pathlib.Path(__file__).resolve().parent.parent.parent / "shared" / "DOC.md"


def examples(text):
    """Pairs (line, what is shown below it, None if nothing is)."""
    blocks = re.findall(r"^    >>> (.*)\n((?:    (?!>>> ).*\n)*)", text, re.M)
    return [(line, "\n".join(own[4:] for own in shown.splitlines()) or None) for line, shown in blocks]


def told(line, names):
    """What the line gives, as the document shows it."""
    try:
        return repr(eval(line, names))
    except (LookupError, ValueError) as e:
        return f"raises {type(e).__name__}({', '.join(f'{name}={worth!r}' for name, worth in vars(e).items())})"


class Document(unittest.TestCase):

    @unittest.skipUnless(DOCUMENT.exists(), "the document is not here")
    def test_examples(self):
        names = {"Board": Board, **{name: getattr(errors, name) for name in ("NoPlace", "BadLine", "CanNot", "Unfit")}}
        for file, text in INTERFACE.items():
            module = importlib.import_module("everychange." + file)
            names.update((name, getattr(module, name)) for name, _ in listed(text))
        seen = 0
        for line, shown in examples(DOCUMENT.read_text()):
            if shown is not None:
                self.assertEqual(told(line, names), shown, line)
                seen += 1
            else:
                exec(line, names)
        self.assertGreater(seen, 90)

    def test_each_name_is_there_once(self):
        names = [name for text in INTERFACE.values() for name, _ in listed(text)]
        self.assertEqual(len(names), len(set(names)))
        self.assertTrue(all(re.fullmatch("[a-z_]+", name) for name in names))


if __name__ == "__main__":
    unittest.main()
