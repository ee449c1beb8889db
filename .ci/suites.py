"""Runs the test folders, each in a process of its own because their files may have the same names."""

import os
import pathlib
import subprocess
import sys
import unittest

TOP = pathlib.Path(__file__).resolve().parent.parent
OWN = TOP / "tests"
SHARED = TOP.parent / "shared" / "tests"


def folders():
    """The folders to run: our own, and each one under the shared folder that holds a test."""
    holding = {path.parent for path in SHARED.rglob("test_*.py")} if SHARED.is_dir() else set()
    return [OWN, *sorted(holding)]


def counts(folder):
    """The numbers of passed and failed tests of a folder."""
    reading, writing = os.pipe()
    command = [sys.executable, "-B", __file__, str(folder), str(writing)]
    paths = {**os.environ, "PYTHONPATH": str(TOP)}
    code = subprocess.run(command, cwd=TOP, env=paths, pass_fds=(writing,)).returncode
    os.close(writing)
    with os.fdopen(reading) as told:
        words = told.read().split()
    # A process that ended before it told its numbers counts as a failed test.
    return (int(words[0]), int(words[1])) if code == 0 and len(words) == 2 else (0, 1)


def run_folder(folder, writing):
    """Run the tests of one folder and tell the numbers."""
    print(f"== {folder}", flush=True)
    suite = unittest.defaultTestLoader.discover(folder, pattern="test_*.py")
    result = unittest.TextTestRunner(stream=sys.stdout).run(suite)
    failed = len(result.failures) + len(result.errors) + len(result.unexpectedSuccesses)
    passed = max(0, result.testsRun - failed - len(result.skipped))
    with os.fdopen(writing, "w") as told:
        told.write(f"{passed} {failed}")


def main():
    """Run all folders; the exit code is 1 if a test failed or our own folder has none."""
    numbers = [counts(folder) for folder in folders()]
    passed, failed = sum(one for one, _ in numbers), sum(two for _, two in numbers)
    if sum(numbers[0]) == 0:
        print("no test of the project was run")
    print(f"{passed} passed, {failed} failed", flush=True)
    return 1 if failed > 0 or sum(numbers[0]) == 0 else 0


if __name__ == "__main__":
    if len(sys.argv) == 3:
        run_folder(sys.argv[1], int(sys.argv[2]))
    else:
        sys.exit(main())
