"""Runs all test_*.py under the given folders and closes with a line 'N passed, N failed'."""

import os
import subprocess
import sys
import unittest
from pathlib import Path


class CountingResult(unittest.TextTestResult):
    """Counts the tests that succeed, which unittest itself does not."""

    def __init__(self, *args, **more):
        super().__init__(*args, **more)
        self.passed = 0

    def addSuccess(self, test):
        super().addSuccess(test)
        self.passed += 1


def run_folder(folder):
    """Run the tests of one folder and print how many passed and failed."""
    suite = unittest.TestLoader().discover(folder, pattern="test_*.py", top_level_dir=folder)
    runner = unittest.TextTestRunner(stream=sys.stderr, resultclass=CountingResult)
    result = runner.run(suite)
    failed = len(result.failures) + len(result.errors) + len(result.unexpectedSuccesses)
    print(f"\n{result.passed} {failed}")


def counts_of(folder):
    """Return how many tests of one folder passed and failed, run in a Python of their own.

    Folders are kept apart because their files may have the same names.
    """
    environment = {**os.environ, "PYTHONPATH": os.getcwd()}
    command = [sys.executable, __file__, "--folder", folder]
    done = subprocess.run(command, env=environment, stdout=subprocess.PIPE, text=True)
    words = done.stdout.split("\n")[-2:-1]
    if done.returncode != 0 or not words:
        return 0, 1
    passed, failed = words[0].split()
    return int(passed), int(failed)


def main(tops):
    folders = {str(path.parent) for top in tops for path in Path(top).rglob("test_*.py")}
    all_passed = all_failed = 0
    for folder in sorted(folders):
        print(f"tests in {folder}", flush=True)
        passed, failed = counts_of(folder)
        all_passed += passed
        all_failed += failed
    print(f"{all_passed} passed, {all_failed} failed", flush=True)
    return 0 if all_passed > 0 and all_failed == 0 else 1


if __name__ == "__main__":
    if sys.argv[1] == "--folder":
        run_folder(sys.argv[2])
    else:
        sys.exit(main(sys.argv[1:]))
