"""Prints how long calls take that are asked very often. Nothing fails by it: machines differ."""

import sys
import time

from madeofhere.counts import costs, counted, is_of_here, owns, portion, words_at
from madeofhere.goods import things

G = ("made", "here", 0, 5, (50, "whole", "own"),
     (("raw", "here", 1, 3), ("made", "away", 2, 2, (40, "own", "none"), (("raw", "away", 4, 4),))))
P = ((3, 1), (5, 2), (2, 1), (4, 1))
H = ("made", "here", 1, 2, (50, "whole", "own"),
     (("made", "away", 1, 1, (60, "own", "none"), (("raw", "here", 5, 7), ("raw", "away", 3, 3))),
      ("made", "here", 0, 0, (30, "whole", "own"), (("raw", "here", 2, 2), ("raw", "away", 9, 9))),
      ("made", "away", 4, 4, (40, "own", "own"), (("raw", "here", 1, 3),)),
      ("raw", "away", 6, 6)))
Q = ((1, 1), (1, 1), (11, 2), (3, 1), (0, 1), (2, 1), (9, 1), (4, 1), (5, 3), (6, 1))


def seconds(many, function, *told):
    """How long so many calls take, one after another; the best of three times."""
    best = None
    for _ in range(3):
        start = time.perf_counter()
        for _ in range(many):
            function(*told)
        took = time.perf_counter() - start
        best = took if best is None else min(best, took)
    return best


def show_counts():
    wanted = {things: 0.09, costs: 0.22, owns: 0.22, counted: 0.22}
    print("20,000 calls, G a GOOD of four THINGS")
    for function in (things, costs, owns, counted, words_at, is_of_here, portion):
        took = seconds(20000, function, *((G,) if function is things else (G, P)))
        print(f"  {function.__name__:<16}{took:8.3f} s   wanted: at most {wanted.get(function, 0.2):.2f} s")
    print("3,000 calls, H one of the greatest GOODS")
    for function in (costs, words_at, portion):
        print(f"  {function.__name__:<16}{seconds(3000, function, H, Q):8.3f} s   wanted: at most 0.08 s")


if __name__ == "__main__":
    print(f"CPython {sys.version.split()[0]}")
    show_counts()
