"""Runs the suites of tests, each in a process of its own, and tells how many tests passed and failed.

Without arguments: all suites. With a folder and the folder from which its tests are imported: that suite alone.
"""

import os
import subprocess
import sys
import unittest

ROOT = os.path.dirname(os.path.dirname(os.path.abspath(__file__)))
SHARED = os.path.join(os.path.dirname(ROOT), "shared", "tests")
MARK = "suite:"


def run_one(folder, top):
    """Run one suite; print how many of its tests passed, failed and were skipped."""
    sys.path.insert(0, ROOT)
    suite = unittest.TestLoader().discover(folder, pattern="test_*.py", top_level_dir=top)
    result = unittest.TextTestRunner(stream=sys.stderr, verbosity=1).run(suite)
    # subtests that fail count for the one test in which they are
    failed = {test.id() if not hasattr(test, "test_case") else test.test_case.id()
              for test, _ in result.failures + result.errors}
    count = len(failed) + len(result.unexpectedSuccesses)
    skipped = len(result.skipped)
    print(MARK, max(0, result.testsRun - count - skipped), count, skipped, flush=True)
    return 0 if result.wasSuccessful() else 1


def run_apart(folder, top):
    """Run a suite in a process of its own; return how many tests passed, failed and were skipped."""
    print("suite", folder, flush=True)
    done = subprocess.run([sys.executable, os.path.abspath(__file__), folder, top], cwd=ROOT, stdout=subprocess.PIPE,
                          text=True, check=False)
    told = [line.split()[1:] for line in done.stdout.splitlines() if line.startswith(MARK)]
    if not told:
        return 0, 1, 0
    passed, failed, skipped = [int(word) for word in told[-1]]
    # a suite without any test, or one that ended badly, has failed, whatever it counted
    if passed + failed == 0 or (done.returncode != 0 and failed == 0):
        failed = 1
    return passed, failed, skipped


def has_tests(folder):
    """Return whether a folder exists and holds a test file."""
    return os.path.isdir(folder) and any(name.startswith("test_") and name.endswith(".py")
                                         for name in os.listdir(folder))


def run_all():
    """Run all suites; print the sums."""
    suites = [(os.path.join(ROOT, "tests"), ROOT)]
    if has_tests(SHARED):
        suites.append((SHARED, SHARED))
    sums = [0, 0, 0]
    for folder, top in suites:
        sums = [total + more for total, more in zip(sums, run_apart(folder, top))]
    passed, failed, skipped = sums
    print(f"{passed} passed, {failed} failed" + (f", {skipped} skipped" if skipped else ""), flush=True)
    return 0 if failed == 0 else 1


if __name__ == "__main__":
    sys.exit(run_one(*sys.argv[1:]) if len(sys.argv) == 3 else run_all())
