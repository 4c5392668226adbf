"""Run the tests of some folders with unittest, each folder in a process of its own.

The first folder has to have tests; each further one may be missing or empty.
"""

import glob
import os
import re
import subprocess
import sys


def run_folder(folder):
    """Run the tests of a folder, show what they print, and return how many passed and how many failed."""
    command = [sys.executable, "-m", "unittest", "discover", "-s", folder, "-p", "test_*.py"]
    done = subprocess.run(command, stdout=subprocess.PIPE, stderr=subprocess.STDOUT, text=True, check=False)
    print(f"== {folder}\n{done.stdout}", flush=True)
    ran = re.findall(r"^Ran (\d+) tests?", done.stdout, re.MULTILINE)
    count = int(ran[-1]) if ran else 0
    failed = sum(int(number) for number in re.findall(r"(?:failures|errors|unexpected successes)=(\d+)", done.stdout))
    if done.returncode != 0 or count == 0:
        failed = max(failed, 1)
    return max(count - failed, 0), failed


def main(folders):
    """Run all folders, and return 1 if a test failed."""
    passed, failed = 0, 0
    for at, folder in enumerate(folders):
        if at == 0 or glob.glob(os.path.join(folder, "**", "test_*.py"), recursive=True):
            well, badly = run_folder(folder)
            passed, failed = passed + well, failed + badly
    print(f"{passed} passed, {failed} failed")
    return 1 if failed else 0


if __name__ == "__main__":
    sys.exit(main(sys.argv[1:]))
