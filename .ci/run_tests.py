"""Runs each test file in a process of its own, several at once, and counts what passed and failed."""

import os
import re
import subprocess
import sys
from concurrent.futures import ThreadPoolExecutor
from pathlib import Path

HERE = Path(__file__).resolve().parent.parent


def run_file(path):
    command = [sys.executable, "-m", "unittest", "discover", "-s", str(path.parent), "-p", path.name]
    done = subprocess.run(command, cwd=HERE, stdout=subprocess.PIPE, stderr=subprocess.STDOUT, text=True)
    ran = re.search(r"^Ran (\d+) tests? in", done.stdout, re.MULTILINE)
    told = re.search(r"^FAILED \((.*)\)$", done.stdout, re.MULTILINE)
    many = int(ran.group(1)) if ran else 0
    failed = sum(int(count) for count in re.findall(r"(?:failures|errors|successes)=(\d+)", told.group(1))) if told else 0
    # Subtests may count several failures of one test; a file without a test is one that fails.
    failed = min(failed, many)
    if many == 0 or (done.returncode != 0 and failed == 0):
        failed = failed + 1
        many = max(many, failed)
    return path, many - failed, failed, done.stdout


def main():
    files = sorted((HERE / "tests").glob("test_*.py"))
    files += sorted((HERE.parent / "shared" / "tests").rglob("test_*.py"))
    passed = failed = 0
    with ThreadPoolExecutor(os.cpu_count() or 2) as pool:
        for path, right, wrong, said in pool.map(run_file, files):
            print(f"{path.parent.parent.name}/{path.parent.name}/{path.name}: {right} passed, {wrong} failed", flush=True)
            if wrong:
                print(said[-6000:], flush=True)
            passed += right
            failed += wrong
    print(f"{passed} passed, {failed} failed")
    return 1 if failed or not passed else 0


if __name__ == "__main__":
    sys.exit(main())
