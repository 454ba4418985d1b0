"""Runs the tests of one folder; fails if one of them fails, or if there is none."""

import os
import sys
import unittest


def main(folder):
    # The tests import the program from the folder that holds this one.
    sys.path.insert(0, os.path.dirname(os.path.dirname(os.path.abspath(__file__))))
    suite = unittest.defaultTestLoader.discover(folder, pattern="test_*.py", top_level_dir=folder)
    result = unittest.TextTestRunner(stream=sys.stdout, verbosity=1).run(suite)
    failed = len(result.failures) + len(result.errors) + len(result.unexpectedSuccesses)
    skipped = len(result.skipped)
    print(f"{result.testsRun - failed - skipped} passed, {failed} failed, {skipped} skipped", flush=True)
    if result.testsRun == 0:
        print(f"no test in {folder}")
    return 0 if result.testsRun > 0 and failed == 0 and result.wasSuccessful() else 1


if __name__ == "__main__":
    sys.exit(main(sys.argv[1]))
