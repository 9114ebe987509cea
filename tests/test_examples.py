"""The examples of the document, as they stand there, in tests/examples.txt."""

import pathlib
import unittest

TEXT = pathlib.Path(__file__).with_name("examples.txt").read_text(encoding="utf-8")


def examples_in(text):
    """Each example as its heading, its lines of code and what it gives."""
    found, heading = [], None
    for part in text.strip().split("\n\n"):
        lines = part.split("\n")
        if lines[0].startswith("# "):
            heading = lines[0][2:]
        else:
            code = [line[4:] for line in lines[:-1]]
            found.append((heading, code, lines[-1]))
    return found


def outcome_of(code):
    """What the last line gives, or the error that it raises, as the document writes it."""
    names = {}
    for line in code[:-1]:
        exec(line, names)
    try:
        return repr(eval(code[-1], names))
    except ValueError as error:
        told = ", ".join(f"{name}={worth!r}" for name, worth in vars(error).items())
        return f"raises {type(error).__name__}({told})"


class Examples(unittest.TestCase):
    def test_every_example(self):
        for heading, code, wanted in examples_in(TEXT):
            with self.subTest(heading):
                self.assertEqual(outcome_of(code), wanted)

    def test_there_are_examples_of_each_module(self):
        headings = [heading for heading, _, _ in examples_in(TEXT)]
        self.assertEqual(len(headings), 36)
        self.assertEqual(len(set(headings)), 17)


if __name__ == "__main__":
    unittest.main()
