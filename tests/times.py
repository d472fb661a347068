"""Prints how long calls take that are asked very often. Nothing fails by it: machines differ."""

import sys
import time

from madeofhere.counts import costs, counted, is_of_here, owns, portion, words_at
from madeofhere.files import File
from madeofhere.goods import things
from madeofhere.pieces import coming, corners, do_come, forms, prices_for
from madeofhere.portions import greatest_portion, least_portion, most_ever, most_sure, prices_of
from madeofhere.sures import check_sure, do_bar, is_never, is_sure, sure_paper, weights_for
from tests.slow import all_words, with_share

G = ("made", "here", 0, 5, (50, "whole", "own"),
     (("raw", "here", 1, 3), ("made", "away", 2, 2, (40, "own", "none"), (("raw", "away", 4, 4),))))
P = ((3, 1), (5, 2), (2, 1), (4, 1))
H = ("made", "here", 1, 2, (50, "whole", "own"),
     (("made", "away", 1, 1, (60, "own", "none"), (("raw", "here", 5, 7), ("raw", "away", 3, 3))),
      ("made", "here", 0, 0, (30, "whole", "own"), (("raw", "here", 2, 2), ("raw", "away", 9, 9))),
      ("made", "away", 4, 4, (40, "own", "own"), (("raw", "here", 1, 3),)),
      ("raw", "away", 6, 6)))
Q = ((1, 1), (1, 1), (11, 2), (3, 1), (0, 1), (2, 1), (9, 1), (4, 1), (5, 3), (6, 1))


def seconds(many, function, *told):
    """How long so many calls take, one after another; the best of three times."""
    best = None
    for _ in range(3):
        start = time.perf_counter()
        for _ in range(many):
            function(*told)
        took = time.perf_counter() - start
        best = took if best is None else min(best, took)
    return best


def show_counts():
    wanted = {things: 0.09, costs: 0.22, owns: 0.22, counted: 0.22}
    print("20,000 calls, G a GOOD of four THINGS")
    for function in (things, costs, owns, counted, words_at, is_of_here, portion):
        took = seconds(20000, function, *((G,) if function is things else (G, P)))
        print(f"  {function.__name__:<16}{took:8.3f} s   wanted: at most {wanted.get(function, 0.2):.2f} s")
    print("3,000 calls, H one of the greatest GOODS")
    for function in (costs, words_at, portion):
        print(f"  {function.__name__:<16}{seconds(3000, function, H, Q):8.3f} s   wanted: at most 0.08 s")


def micros(many, rows):
    """Microseconds for each call, of calls with each of these rows of arguments in turn."""
    took = seconds(many, lambda: [function(*told) for function, *told in rows])
    return took * 10 ** 6 / many / len(rows)


def call_rows(good):
    """For each function the calls that are timed, and what is wanted of one with a small GOOD, in microseconds."""
    words = all_words(good)
    weights = [(one, weights_for(good, one) or (1,) * len(forms(good, one))) for one in words]
    yield "forms", 30, [(forms, good, one) for one in words]
    yield "corners", 200, [(corners, good, one) for one in words]
    for function in (do_come, prices_for, weights_for):
        yield function.__name__, 60, [(function, good, one) for one in words]
    yield "do_bar", 60, [(do_bar, good, *row) for row in weights]
    for function in (coming, is_sure, is_never, sure_paper):
        yield function.__name__, 300, [(function, good)]
    sure = with_share(good, most_sure(good))
    yield "sure_paper, sure", 300, [(sure_paper, sure)]
    yield "check_sure", 300, [(check_sure, good, sure_paper(good))]
    yield "check_sure, sure", 300, [(check_sure, sure, sure_paper(sure))]
    for function in (least_portion, greatest_portion, most_sure, most_ever):
        yield function.__name__, 1000, [(function, good)]
    yield "prices_of", 1000, [(prices_of, good, (part, 7)) for part in (1, 2, 3, 4, 5, 6)]


def look(file):
    """All that a file tells."""
    return file(), file.words(), file.portion(), file.good, file.prices, len(file), file.words() in file


def live_rows(good):
    """The same of deeds of a File that are taken back at once, with all that it tells behind both."""
    number, thing = [(at, thing) for at, thing in enumerate(things(good)) if thing[2] < thing[3]][0]

    def price(file):
        file.price(number, (thing[3], 1))
        look(file)
        file.back()
        look(file)

    def rule(file):
        file.rule(0, (40, "own", "own"))
        look(file)
        file.back()
        look(file)

    yield "price, and back", 100, [(price, File(good))]
    yield "rule, and back", 100, [(rule, File(good))]


def show_sheets():
    print("microseconds for each call: with G, wanted of it (a little more may do), with H")
    small, great = ([*call_rows(good), *live_rows(good)] for good in (G, H))
    for (name, wanted, rows), (_, _, others) in zip(small, great):
        print(f"  {name:<18}{micros(200, rows):8.1f}{wanted:8}{micros(50, others):10.1f}")


if __name__ == "__main__":
    print(f"CPython {sys.version.split()[0]}")
    show_counts()
    show_sheets()
