import doctest
import unittest


def load_tests(loader, tests, pattern):
    """Add the examples of the document, which stand in a text beside this file."""
    tests.addTests(doctest.DocFileSuite("examples.txt", package="tests"))
    return tests


if __name__ == "__main__":
    unittest.main()
