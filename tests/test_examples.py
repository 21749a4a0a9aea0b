"""The examples of the document, as they stand there: tests/examples.txt has them in their order."""

import pathlib
import unittest

EXAMPLES = pathlib.Path(__file__).resolve().parent / "examples.txt"


def examples():
    """The pairs of what is asked and of what is told, an empty string where nothing is."""
    asked = None
    for line in EXAMPLES.read_text().split("\n") + [">>> "]:
        if line.startswith(">>> "):
            if asked is not None:
                yield asked, told
            asked, told = line[4:], ""
        elif line:
            told = line


def error_text(error):
    return f"{type(error).__name__}({', '.join(f'{name}={value!r}' for name, value in vars(error).items())})"


def answer(asked, names):
    """What Python tells of an example; names are those that the examples before it have set."""
    try:
        code = compile(asked, "examples.txt", "eval")
    except SyntaxError:
        exec(asked, names)
        return ""
    try:
        result = eval(code, names)
    except Exception as error:
        return "raises " + error_text(error)
    return "" if result is None else repr(result)


class Examples(unittest.TestCase):
    def test_each(self):
        names = {}
        many = 0
        for asked, told in examples():
            self.assertEqual(answer(asked, names), told, asked)
            many += 1
        self.assertEqual(many, 77)

    def test_by_the_examples_of_errors(self):
        self.assertEqual(sum(told.startswith("raises ") for _, told in examples()), 9)


if __name__ == "__main__":
    unittest.main()
