"""The examples of the document give what it shows."""

import unittest

from examples import EXAMPLES


def statements(text):
    """Pairs of a line of code and the line that the document shows below it, or None."""
    pairs = []
    for line in text.strip().split("\n"):
        if line.startswith(">>> "):
            pairs.append((line[4:], None))
        else:
            pairs[-1] = (pairs[-1][0], line)
    return pairs


def is_expression(code):
    try:
        compile(code, "example", "eval")
    except SyntaxError:
        return False
    return True


def shown(error, expected):
    """The exception as the document shows it: with its arguments if it shows them."""
    name = type(error).__name__
    if "(" not in expected:
        return f"raises {name}"
    return f"raises {name}({', '.join([repr(argument) for argument in vars(error).values()])})"


def answer(code, names, expected):
    """What the document would show below a line of code."""
    if not is_expression(code):
        exec(code, names)
        return None
    try:
        result = eval(code, names)
    except ValueError as error:
        return shown(error, expected or "")
    # The document shows None where a result is expected, and nothing below an operation.
    return None if result is None and expected is None else repr(result)


class TestExamples(unittest.TestCase):
    def test_examples(self):
        for point, text in EXAMPLES.items():
            names = {}
            for code, expected in statements(text):
                with self.subTest(point=point, code=code):
                    self.assertEqual(answer(code, names, expected), expected)

    def test_every_point_has_results(self):
        for point, text in EXAMPLES.items():
            self.assertTrue([expected for code, expected in statements(text) if expected is not None], point)


if __name__ == "__main__":
    unittest.main()
