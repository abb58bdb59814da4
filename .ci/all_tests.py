"""Runs every test of the project and of ../shared/tests; fails if one fails, or if none was run."""

import sys
import unittest
from pathlib import Path

ROOT = Path(__file__).resolve().parent.parent
SHARED = ROOT.parent / "shared" / "tests"


def folders(top):
    """Every folder that has tests and is not reached as a package of a folder above it."""
    found = sorted({path.parent for path in top.rglob("test_*.py")})
    return [folder for folder in found if folder == top or not (folder / "__init__.py").exists()]


def all_tests():
    suite = unittest.TestSuite()
    suite.addTests(unittest.TestLoader().discover(str(ROOT / "tests"), "test_*.py", str(ROOT)))
    for folder in folders(SHARED):
        suite.addTests(unittest.TestLoader().discover(str(folder), "test_*.py", str(folder)))
    return suite


def main():
    sys.dont_write_bytecode = True
    sys.path.insert(0, str(ROOT))
    result = unittest.TextTestRunner(stream=sys.stdout, verbosity=1).run(all_tests())
    wrong = len(result.failures) + len(result.errors) + len(result.unexpectedSuccesses)
    skipped = len(result.skipped)
    ran = result.testsRun - skipped
    print(f"{max(0, ran - wrong)} passed, {wrong} failed, {skipped} skipped")
    if ran == 0:
        print("no test was run")
    return 0 if ran > 0 and result.wasSuccessful() else 1


if __name__ == "__main__":
    sys.exit(main())
