"""Prints how long calls take that are asked very often. Nothing fails by it: machines differ."""

import sys
import time

from madeofhere.beside import (
    are_alike, beside_paper, beyond_prices, both_forms, check_beside, never_less, parting_prices,
)
from madeofhere.counts import costs, counted, is_of_here, owns, portion, words_at
from madeofhere.desk import Desk
from madeofhere.files import File
from madeofhere.goods import highs, lows, things
from madeofhere.menus import fitting_goods, here_by, lots, need_menu, telling_prices
from madeofhere.partings import (
    best_change, changed, changed_prices, changes, harming, helping, helping_prices, making_sure,
)
from madeofhere.pieces import coming, corners, do_come, forms, prices_for
from madeofhere.portions import greatest_portion, least_portion, most_ever, most_sure, prices_of
from madeofhere.rises import drop_by, lift_by, moody
from madeofhere.sures import check_sure, do_bar, is_never, is_sure, sure_paper, weights_for
from madeofhere.texts import good_text, prices_text, read_good, read_prices
from madeofhere.turns import here_turns, move_of, turns
from tests.slow import all_words, with_share

G = ("made", "here", 0, 5, (50, "whole", "own"),
     (("raw", "here", 1, 3), ("made", "away", 2, 2, (40, "own", "none"), (("raw", "away", 4, 4),))))
P = ((3, 1), (5, 2), (2, 1), (4, 1))
H = ("made", "here", 1, 2, (50, "whole", "own"),
     (("made", "away", 1, 1, (60, "own", "none"), (("raw", "here", 5, 7), ("raw", "away", 3, 3))),
      ("made", "here", 0, 0, (30, "whole", "own"), (("raw", "here", 2, 2), ("raw", "away", 9, 9))),
      ("made", "away", 4, 4, (40, "own", "own"), (("raw", "here", 1, 3),)),
      ("raw", "away", 6, 6)))
Q = ((1, 1), (1, 1), (11, 2), (3, 1), (0, 1), (2, 1), (9, 1), (4, 1), (5, 3), (6, 1))
# As great as a GOOD of which STEPS can part, and of which a dearer THING turns the word both ways.
M = ("made", "away", 0, 0, (50, "own", "own"),
     (("made", "away", 0, 0, (50, "whole", "own"),
       (("raw", "here", 4, 6), ("raw", "away", 0, 9), ("raw", "away", 1, 1))),
      ("made", "here", 1, 1, (60, "whole", "none"), (("raw", "here", 1, 4), ("raw", "away", 2, 2))),
      ("raw", "away", 8, 8)))


def seconds(many, function, *told):
    """How long so many calls take, one after another; the best of three times."""
    best = None
    for _ in range(3):
        start = time.perf_counter()
        for _ in range(many):
            function(*told)
        took = time.perf_counter() - start
        best = took if best is None else min(best, took)
    return best


def show_counts():
    wanted = {things: 0.09, costs: 0.22, owns: 0.22, counted: 0.22}
    print("20,000 calls, G a GOOD of four THINGS")
    for function in (things, costs, owns, counted, words_at, is_of_here, portion):
        took = seconds(20000, function, *((G,) if function is things else (G, P)))
        print(f"  {function.__name__:<16}{took:8.3f} s   wanted: at most {wanted.get(function, 0.2):.2f} s")
    print("3,000 calls, H one of the greatest GOODS")
    for function in (costs, words_at, portion):
        print(f"  {function.__name__:<16}{seconds(3000, function, H, Q):8.3f} s   wanted: at most 0.08 s")


def micros(many, rows):
    """Microseconds for each call, of calls with each of these rows of arguments in turn."""
    took = seconds(many, lambda: [function(*told) for function, *told in rows])
    return took * 10 ** 6 / many / len(rows)


def call_rows(good):
    """For each function the calls that are timed, and what is wanted of one with a small GOOD, in microseconds."""
    words = all_words(good)
    weights = [(one, weights_for(good, one) or (1,) * len(forms(good, one))) for one in words]
    yield "forms", 30, [(forms, good, one) for one in words]
    yield "corners", 200, [(corners, good, one) for one in words]
    for function in (do_come, prices_for, weights_for):
        yield function.__name__, 60, [(function, good, one) for one in words]
    yield "do_bar", 60, [(do_bar, good, *row) for row in weights]
    for function in (coming, is_sure, is_never, sure_paper):
        yield function.__name__, 300, [(function, good)]
    sure = with_share(good, most_sure(good))
    yield "sure_paper, sure", 300, [(sure_paper, sure)]
    yield "check_sure", 300, [(check_sure, good, sure_paper(good))]
    yield "check_sure, sure", 300, [(check_sure, sure, sure_paper(sure))]
    for function in (least_portion, greatest_portion, most_sure, most_ever):
        yield function.__name__, 1000, [(function, good)]
    yield "prices_of", 1000, [(prices_of, good, (part, 7)) for part in (1, 2, 3, 4, 5, 6)]


def text_rows(good):
    """The same of texts, of a desk and of turns."""
    prices = [lows(good), highs(good)]
    yield "good_text", 30, [(good_text, good)]
    yield "read_good", 60, [(read_good, good_text(good))]
    yield "prices_text", 30, [(prices_text, good, one) for one in prices]
    yield "read_prices", 30, [(read_prices, good, prices_text(good, one)) for one in prices]
    say = Desk(good_text(good)).say
    refused = ("", "word", "price 1", "price 01 1/1", "price 0 1/1000001", "price 99 1/1", "rule 0 101 own own")
    yield "say, refused", 10, [(say, line) for line in refused]
    price = "price 0 " + prices_text(good, prices[1]).split(" ", maxsplit=1)[0]
    yield "say, price", 60, [(lambda line: say(line) + say("undo"), price)]
    yield "say, rule", 60, [(lambda line: say(line) + say("undo"), "rule 0 40 own own")]
    for line in ("words", "portion", "text", "prices", "sure", "most"):
        yield "say, " + line, 60, [(say, line)]
    for function in (turns, here_turns, move_of):
        yield function.__name__, 100, [(function, good, one, at) for one in prices for at in range(len(one))]


def twins_of(good):
    """TWINS of a GOOD: itself, some with another RULE of STEP 0, and some whose work is done elsewhere."""
    land = "away" if good[1] == "here" else "here"
    return [good, with_share(good, good[4][0] - 5), with_share(good, 0), (good[0], land, *good[2:])]


def beside_rows(good):
    """The same of GOODS beside one another, and of menus."""
    words = all_words(good)
    pairs = [(good, other) for other in twins_of(good)]
    yield "both_forms", 40, [(both_forms, good, one, pairs[1][1], other) for one, other in zip(words, words[::-1])]
    for function in (are_alike, never_less, parting_prices, beyond_prices, beside_paper):
        yield function.__name__, 500, [(function, *pair) for pair in pairs]
    yield "check_beside", 200, [(check_beside, *pair, beside_paper(*pair)) for pair in pairs]
    menu = tuple(twins_of(good)[1:])
    seen = ((lows(good), int(is_of_here(good, lows(good)))), (highs(good), int(is_of_here(good, highs(good)))))
    yield "need_menu", 50, [(need_menu, menu)]
    yield "here_by", 50, [(here_by, menu, lows(good))]
    yield "fitting_goods", 100, [(fitting_goods, menu, seen)]
    yield "fitting_goods, 40", 100, [(fitting_goods, menu, seen * 20)]
    yield "lots", 1000, [(lots, menu)]
    yield "telling_prices", 1000, [(telling_prices, menu)]


def change_rows(good):
    """The same of CHANGES, for each of them where all are asked for at once, and of prices that rise."""
    rows = changes(good)
    yield "changes", 100, [(changes, good)]
    yield "changed", 40, [(changed, good, change) for change in rows]
    yield "changed_prices", 40, [(changed_prices, good, change, lows(good)) for change in rows]
    yield "helping_prices", 300, [(helping_prices, good, change) for change in rows]
    for function in (helping, harming, making_sure, best_change):
        yield function.__name__, 300 * len(rows), [(function, good)]
    for function in (drop_by, lift_by):
        yield function.__name__, 500, [(function, good, number) for number in range(len(things(good)))]
    yield "moody", 1000, [(moody, good)]


def look(file):
    """All that a file tells."""
    return file(), file.words(), file.portion(), file.good, file.prices, len(file), file.words() in file


def live_rows(good):
    """The same of deeds of a File that are taken back at once, with all that it tells behind both."""
    number, thing = [(at, thing) for at, thing in enumerate(things(good)) if thing[2] < thing[3]][0]

    def price(file):
        file.price(number, (thing[3], 1))
        look(file)
        file.back()
        look(file)

    def rule(file):
        file.rule(0, (40, "own", "own"))
        look(file)
        file.back()
        look(file)

    yield "price, and back", 100, [(price, File(good))]
    yield "rule, and back", 100, [(rule, File(good))]


def show_micros(told, calls, great):
    """The times of calls, with G and with a great GOOD."""
    print(f"microseconds for each call: with G, wanted of it (a little more may do), with {told}")
    for (name, wanted, rows), (_, _, others) in zip(calls(G), calls(great)):
        print(f"  {name:<18}{micros(100, rows):8.1f}{wanted:8}{micros(10, others):10.1f}")


if __name__ == "__main__":
    print(f"CPython {sys.version.split()[0]}")
    show_counts()
    for of in (call_rows, live_rows, text_rows, beside_rows):
        show_micros("H", of, H)
    show_micros("M", change_rows, M)
