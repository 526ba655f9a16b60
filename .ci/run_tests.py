"""Run every test_*.py below the folders that are named, and close with "N passed, N failed".

Each file runs in a process of its own, as `python3 -m unittest` would run it, so that files of the
same name in two folders don't meet. The program must mean the same under Python 3.11 and 3.13: each
of these that is on the machine runs all tests, beside the Python that runs this file.
"""

import glob
import os
import re
import shutil
import subprocess
import sys
from pathlib import Path

ROOT = Path(__file__).resolve().parent.parent
WANTED = ("3.11", "3.13")


def version_of(python):
    ask = "import sys; print('%d.%d' % sys.version_info[:2])"
    try:
        done = subprocess.run([python, "-c", ask], capture_output=True, text=True)
    except OSError:
        return None
    # A name may be on the path and still start nothing, as that of a version manager does.
    return done.stdout.strip() if done.returncode == 0 else None


def pythons():
    found = {version_of(sys.executable): sys.executable}
    for wanted in WANTED:
        by_name = shutil.which(f"python{wanted}")
        managed = sorted(glob.glob(os.path.expanduser(f"~/.pyenv/versions/{wanted}.*/bin/python3")))
        for python in ([by_name] if by_name else []) + managed:
            if wanted not in found and version_of(python) == wanted:
                found[wanted] = python
        if wanted not in found:
            print(f"Python {wanted} is not on this machine: not tested under it")
    return found


def failed_in(text):
    found = re.search(r"^FAILED \((.*)\)$", text, re.MULTILINE)
    counts = dict(part.split("=") for part in found.group(1).split(", ")) if found else {}
    return sum(int(counts.get(word, 0)) for word in ("failures", "errors", "unexpected successes"))


def run_file(python, path):
    env = dict(os.environ, PYTHONPATH=str(ROOT), PYTHONDONTWRITEBYTECODE="1")
    done = subprocess.run([python, "-m", "unittest", path.stem], cwd=path.parent, env=env,
                          stdin=subprocess.DEVNULL, capture_output=True, text=True)
    ran = re.search(r"^Ran (\d+) tests?", done.stderr, re.MULTILINE)
    total = int(ran.group(1)) if ran else 0
    failed = failed_in(done.stderr)
    # A file that ran no test, or that broke off, shows nothing: it counts as failed.
    if failed == 0 and (done.returncode != 0 or total == 0):
        failed = 1
    if failed:
        print(done.stdout + done.stderr)
    return max(total - failed, 0), failed


def test_files(folder):
    if not folder.is_dir():
        sys.exit(f"no folder {folder}")
    return sorted(folder.rglob("test_*.py"))


def main(folders):
    files = [path for folder in folders for path in test_files(ROOT / folder)]
    passed = 0
    failed = 0
    for version, python in pythons().items():
        for path in files:
            good, bad = run_file(python, path)
            print(f"Python {version}, {os.path.relpath(path, ROOT)}: {good} good, {bad} bad")
            passed += good
            failed += bad
    print(f"{passed} passed, {failed} failed")
    return 1 if failed or not passed else 0


if __name__ == "__main__":
    sys.exit(main(sys.argv[1:]))
