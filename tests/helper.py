"""What several tests need: odd things, wishes, dealings, refusals."""

import copy
import itertools
import random

from wishdeal import errors
from wishdeal.webs import web_of
from wishdeal.worths import worth_of, worth_of_wish


def anything():
    """Things of any kind, made anew, with none of the program's own forms hidden among them by chance."""
    return [
        True, False, None, 0, 1, -1, 7, 10 ** 59,
        "", "a", "firsts", "copies", "0", " ", b"", b"a",
        [], [None], [True], [0], [1, 2], [[]], [[0]], [[[0]]], ["a"], [()], [(0, 0)], [[0, 0]], [{}],
        (), (None,), (0,), (0, 0), (1, 2, 3), ([], []), [[], []], ((), ()), ({}, {}), (None, None, None),
        {}, {0: 1}, {"a": "b"}, set(), {1}, frozenset(), object(), int, len,
        [[[[[[0]]]]]], ((((((0,),),),),),),
    ]


def others_than(kept):
    """Things of any kind of which the test `kept` does not hold."""
    return [thing for thing in anything() if not kept(thing)]


BASE = ([2, 1, 0], [[[0, 1], [2]], [[1], [0]], [], [[2]]])


def wrong_wishes():
    """Things of any kind that are no wishes, each with the part and the number that it is refused with."""
    rows = [(thing, "wishes", None) for thing in anything()
            if not (isinstance(thing, tuple) and len(thing) == 2)]
    rows += [
        ([[1], [[]]], "wishes", None),
        (([1],), "wishes", None),
        (([1], [[]], None), "wishes", None),
        (([], [[]]), "copies", None),
        (([], []), "copies", None),
        (((1,), [[]]), "copies", None),
        ((None, None), "copies", None),
        (("1", [[]]), "copies", None),
        (({0: 1}, [[]]), "copies", None),
        (([1] * 7, [[]]), "copies", None),
        (([8] * 7, []), "copies", None),
        (([8], []), "copies", 0),
        (([7, 8], [[]]), "copies", 1),
        (([0, -1, -1], [[]]), "copies", 1),
        (([0, True], [[]]), "copies", 1),
        (([False, 1], [[]]), "copies", 0),
        (([1, None], [[]]), "copies", 1),
        (([1, 1, "1"], [[]]), "copies", 2),
        (([1, [1]], [[]]), "copies", 1),
        (([1], []), "lists", None),
        (([1], ()), "lists", None),
        (([1], ([],)), "lists", None),
        (([1], None), "lists", None),
        (([1], "a"), "lists", None),
        (([1], {0: []}), "lists", None),
        (([1], [[]] * 8), "lists", None),
        (([1], [None] * 8), "lists", None),
        (([1], [None]), "lists", 0),
        (([1], [[], ()]), "lists", 1),
        (([1], [[], "", {}]), "lists", 1),
        (([1], [[], [], {}]), "lists", 2),
        (([1], [[[]]]), "lists", 0),
        (([1], [[[0], []]]), "lists", 0),
        (([1], [[(0,)]]), "lists", 0),
        (([1], [[{0: 0}]]), "lists", 0),
        (([1], [["0"]]), "lists", 0),
        (([1], [[0]]), "lists", 0),
        (([1], [[None]]), "lists", 0),
        (([1, 1], [[[False]]]), "lists", 0),
        (([1, 1], [[], [[True]]]), "lists", 1),
        (([1, 1], [[[0, "1"]]]), "lists", 0),
        (([1, 1], [[[0, None]]]), "lists", 0),
        (([1, 1], [[[[0]]]]), "lists", 0),
        (([1, 1], [[[2]]]), "lists", 0),
        (([1, 1], [[[1], [0, 6]]]), "lists", 0),
        (([1, 1], [[[-1]]]), "lists", 0),
        (([1, 1], [[[0, 0]]]), "lists", 0),
        (([1, 1], [[[0], [0]]]), "lists", 0),
        (([1, 1], [[[0], [1]], [[0, 1], [0]], [[0], [0]]]), "lists", 1),
        (([1] * 6, [[[0], [1], [2], [3], [4], [5]]]), "lists", 0),
        (([1] * 6, [[], [[0], [1], [2], [3], [4], []]]), "lists", 1),
    ]
    return rows


def edge_wishes():
    """Wishes at the edges of what the document lets be."""
    return [
        ([0], [[]]),
        ([7], [[[0]]]),
        ([1], [[[0]]] * 7),
        ([7, 0, 7, 0, 7, 0], [[[5, 4], [3], [2], [1], [0]]]),
        ([0, 7], [[], [], [], [], [], [], [[1], [0]]]),
        ([1] * 6, [[[0, 1, 2, 3, 4, 5]], [[0], [1], [2], [3], [4]]]),
    ]


def some_list(source, things):
    """An asker's list, drawn by a source of numbers."""
    left = source.sample(range(things), source.randint(0, things))
    ranks = []
    while left and len(ranks) < 5:
        size = source.randint(1, len(left))
        ranks.append(left[:size])
        left = left[size:]
    return ranks


def some_wishes(many, most_askers=4, most_things=4):
    """So many wishes, the same ones each time."""
    source = random.Random(20)
    told = edge_wishes()[:2] + [copy.deepcopy(BASE)]
    while len(told) < many:
        things = source.randint(1, most_things)
        copies = [source.choice([0, 1, 1, 1, 2, 3]) for thing in range(things)]
        lists = [some_list(source, things) for asker in range(source.randint(1, most_askers))]
        told.append((copies, lists))
    return told


def some_aims(wishes):
    """Aims for wishes, the same ones each time: all orders, with old and turns and without."""
    source = random.Random(7)
    things = len(wishes[0])
    askers = len(wishes[1])
    told = []
    for order in ("firsts", "full", "lasts"):
        old = [source.choice([None] + list(range(things))) for asker in range(askers)]
        turns = source.sample(range(askers), askers)
        told += [(order, None, []), (order, old, []), (order, None, turns), (order, old, turns[:2])]
    return told


def all_dealings(wishes):
    """All dealings of wishes, gone through one by one."""
    copies, lists = wishes
    choices = [[None] + [thing for rank in ranks for thing in rank] for ranks in lists]
    return [list(row) for row in itertools.product(*choices)
            if all(row.count(thing) <= many for thing, many in enumerate(copies))]


def refusal(call, *handed):
    """The refusal of a call, None where it isn't refused."""
    try:
        call(*handed)
    except errors.DealError as refused:
        return refused
    return None


def all_refused(test, kind, values, calls):
    """Look that each call, a tuple of a function and what it is handed, is refused by the class with its values."""
    for call, *handed in calls:
        told = refusal(call, *handed)
        test.assertIs(type(told), kind, repr((call, handed)))
        test.assertEqual({name: getattr(told, name) for name in values}, values, repr((call, handed)))


def same_each_time(test, call, *handed):
    """What a call tells, having looked that it changes nothing handed in, and that what it tells is the asker's own."""
    ahead = repr(handed)
    told = call(*handed)
    first = repr(told)
    test.assertEqual(repr(handed), ahead)
    spoil(told)
    test.assertEqual(repr(handed), ahead)
    again = call(*handed)
    test.assertEqual(repr(again), first)
    kept = copy.deepcopy(handed)
    spoil(handed)
    test.assertEqual(repr(again), first)
    test.assertEqual(repr(call(*kept)), first)
    return again


def spoil(thing):
    """Change each list within a thing."""
    if isinstance(thing, (list, tuple)):
        for part in list(thing):
            spoil(part)
    if isinstance(thing, list):
        thing.append("spoiled")
        thing.reverse()


def wrong_aims():
    """Things of any kind that are no aims for BASE, each with the part that it is refused with."""
    rows = [(thing, "aim") for thing in anything() if not (isinstance(thing, tuple) and len(thing) == 3)]
    rows += [
        (["firsts", None, []], "aim"),
        (("firsts", None), "aim"),
        (("firsts", None, [], None), "aim"),
        ((1, 2, 3), "order"),
        ((None, 0, 0), "order"),
        (("", None, []), "order"),
        (("first", None, []), "order"),
        (("Firsts", None, []), "order"),
        (("firsts ", None, []), "order"),
        ((b"firsts", None, []), "order"),
        ((["firsts"], None, []), "order"),
        ((("firsts",), None, []), "order"),
        (("order", 0, 0), "order"),
        (("full", [], []), "old"),
        (("full", [None] * 3, []), "old"),
        (("full", [None] * 5, []), "old"),
        (("full", (None,) * 4, []), "old"),
        (("full", False, None), "old"),
        (("full", 0, []), "old"),
        (("full", "abcd", []), "old"),
        (("full", {0: 0, 1: 1, 2: 2, 3: 2}, []), "old"),
        (("full", [0, 1, 2, 3], []), "old"),
        (("full", [0, 1, 2, -1], []), "old"),
        (("full", [None, None, None, True], []), "old"),
        (("full", [False, None, None, None], None), "old"),
        (("full", [None, "0", None, None], []), "old"),
        (("full", [None, [0], None, None], []), "old"),
        (("lasts", None, None), "turns"),
        (("lasts", [None] * 4, ()), "turns"),
        (("lasts", None, (0,)), "turns"),
        (("lasts", None, "0"), "turns"),
        (("lasts", None, {0: 0}), "turns"),
        (("lasts", None, 0), "turns"),
        (("lasts", None, [4]), "turns"),
        (("lasts", None, [0, -1]), "turns"),
        (("lasts", None, [0, 0]), "turns"),
        (("lasts", None, [3, 2, 1, 0, 3]), "turns"),
        (("lasts", None, [True]), "turns"),
        (("lasts", None, [1, False]), "turns"),
        (("lasts", None, [None]), "turns"),
        (("lasts", None, ["0"]), "turns"),
        (("lasts", None, [[0]]), "turns"),
    ]
    return rows


def all_ways(wishes, dealing):
    """All ways for a dealing, gone through one by one by what the document says of them."""
    copies, lists = wishes
    takings = []
    for asker, ranks in enumerate(lists):
        choices = [None] + [thing for rank in ranks for thing in rank]
        takings += [(asker, thing) for thing in choices if thing != dealing[asker]]
    told = []
    for size in range(1, len(lists) + 1):
        for row in itertools.permutations(takings, size):
            if len({asker for asker, thing in row}) == size and ends_and_links(copies, dealing, row):
                told.append(list(row))
    return told


def ends_and_links(copies, dealing, row):
    """Whether takings of unlike askers hang together, and end as a way may."""
    for (asker, thing), (follower, taken) in zip(row, row[1:]):
        if thing is None or dealing[follower] is None or dealing[follower] != thing:
            return False
    end = row[-1][1]
    return end is None or dealing.count(end) < copies[end] or end == dealing[row[0][0]]


def wishes_ahead(test, calls):
    """Look that wishes that are none are refused ahead of all else, by calls (function, how much else it is handed)."""
    for thing, part, number in wrong_wishes():
        for odd in (None, "a", -1, [], ("none", 1, 2)):
            rows = [(call, thing) + (odd,) * more for call, more in calls]
            all_refused(test, errors.NoWishes, {"part": part, "number": number}, rows)


def aims_ahead(test, calls):
    """Look that aims that are none are refused next, by calls (function, how much else it is handed)."""
    for thing, part in wrong_aims():
        for odd in (None, "a", -1, [], (1, [], [])):
            rows = [(call, copy.deepcopy(BASE), thing) + (odd,) * more for call, more in calls]
            all_refused(test, errors.NoAim, {"part": part}, rows)


def great_wishes():
    """Wishes at the greatest sizes: six things, seven copies, seven askers, five ranks."""
    turned = [[(thing + asker) % 6 for thing in range(6)] for asker in range(7)]
    alike = [[0, 1, 2, 3, 4, 5]]
    ranked = [[[a], [b], [c], [d], [e, f]] for a, b, c, d, e, f in turned]
    return [
        ([7] * 6, [copy.deepcopy(alike) for asker in range(7)]),
        ([1] * 6, [copy.deepcopy(alike) for asker in range(7)]),
        ([7] * 6, ranked),
        ([1] * 6, copy.deepcopy(ranked)),
        ([1, 0, 2, 0, 1, 7], copy.deepcopy(ranked)),
        ([1, 1, 1, 1, 1, 2], [[[5], [4], [3], [2], [1, 0]] for asker in range(7)]),
        ([2, 1, 1, 1, 1, 0], [[[a, b], [c, d], [e]] for a, b, c, d, e, f in turned]),
        ([7, 7, 7, 0, 0, 0], [[[3], [4], [5], [0, 1], [2]] for asker in range(7)]),
    ]


def served_within(wishes, ranks, dealing):
    """How many askers a dealing serves within so many ranks."""
    return len([asker for asker, got in enumerate(dealing)
                if got is not None and any(got in rank for rank in wishes[1][asker][:ranks])])


def place_by_place(dealing):
    """What dealings are sorted by: None ahead of numbers."""
    return [-1 if got is None else got for got in dealing]


def best_ones(wishes, aim):
    """All best dealings, sorted place by place, by going through all dealings."""
    dealings = all_dealings(wishes)
    worths = [worth_of(wishes, aim, dealing) for dealing in dealings]
    return sorted([dealing for dealing, worth in zip(dealings, worths) if worth == max(worths)], key=place_by_place)


def tight_by_words(wishes, aim, paper):
    """The tight wishes of a paper, by the words of the document."""
    return [(asker, thing) for asker, ranks in enumerate(wishes[1]) for thing in sorted(sum(ranks, []))
            if paper[1][asker] + paper[2][thing] == paper[0] * worth_of_wish(wishes, aim, asker, thing)]


def turned_there_and_back(source, wishes, aim):
    """A web that was found with askers and things called otherwise."""
    askers = source.sample(range(len(wishes[1])), len(wishes[1]))
    things = source.sample(range(len(wishes[0])), len(wishes[0]))
    order, old, turns = aim
    copies = [wishes[0][thing] for thing in things]
    lists = [[[things.index(thing) for thing in rank] for rank in wishes[1][asker]] for asker in askers]
    if old is not None:
        old = [None if old[asker] is None else things.index(old[asker]) for asker in askers]
    (times, asks, prices), dealings = web_of((copies, lists), (order, old, [askers.index(asker) for asker in turns]))
    back = [[dealing[askers.index(asker)] for asker in range(len(askers))] for dealing in dealings]
    back = [[None if got is None else things[got] for got in dealing] for dealing in back]
    paper = (times, [asks[askers.index(asker)] for asker in range(len(askers))],
             [prices[things.index(thing)] for thing in range(len(things))])
    return (paper, back)


def together(one, other):
    """A web of two webs: papers may be summed up, dealings told one behind the other."""
    paper = (one[0][0] + other[0][0], [sum(row) for row in zip(one[0][1], other[0][1])],
             [sum(row) for row in zip(one[0][2], other[0][2])])
    return (paper, other[1] + one[1])


def some_changes(source, wishes):
    """Changes of wishes, drawn by a source of numbers: each kind that can be, also such that change nothing."""
    copies, lists = wishes
    things = len(copies)
    told = []
    for asker, ranks in enumerate(lists):
        told += [("list", asker, some_list(source, things)), ("list", asker, []), ("list", asker, copy.deepcopy(ranks))]
        if len(lists) > 1:
            told.append(("go", asker))
    for thing, many in enumerate(copies):
        told += [("copies", thing, number) for number in sorted({0, max(many - 1, 0), many, min(many + 1, 7), 7})]
    if len(lists) < 7:
        told += [("come", some_list(source, things)), ("come", [])]
    if things < 6:
        told += [("thing", 0), ("thing", source.randint(1, 7))]
    return told


def by_change(wishes, change):
    """The wishes behind a change that is one, by the words of the document."""
    copies, lists = copy.deepcopy(wishes)
    word, *rest = copy.deepcopy(change)
    if word == "list":
        lists[rest[0]] = rest[1]
    if word == "copies":
        copies[rest[0]] = rest[1]
    if word == "come":
        lists.append(rest[0])
    if word == "go":
        del lists[rest[0]]
    if word == "thing":
        copies.append(rest[0])
    return (copies, lists)


def wrong_changes():
    """Things of any kind that are no changes of BASE."""
    told = anything()
    for word in ("list", "copies", "come", "go", "thing"):
        told += [word, (word,), [word, 0], [word, 0, 1], (word, 0, [], None), (word, 0, 1, 2), (word, None), (word, True)]
        told += [(word, None, None), (word, -1), (word, -1, []), (word, -1, 1), (word, 8), (word, 10 ** 59)]
        told += [(word, "0"), (word, "0", []), (word, [0], []), (word, [0], 1), (word, (0,), 1), (word, {}), (word, "")]
        told += [(word, False, []), (word, False, 1), (word, 4, []), (word, 3, 8), (word, 10 ** 59, []), (word, 4, 1)]
    told += [("list", 0, ranks) for ranks in wrong_lists()]
    told += [("come", ranks) for ranks in wrong_lists()]
    for many in [-1, 8, 10 ** 59] + others_than(lambda thing: type(thing) is int):
        told += [("copies", 0, many), ("thing", many)]
    for number in [-1, -4, 10 ** 59] + others_than(lambda thing: type(thing) is int):
        told += [("list", number, []), ("copies", number, 1), ("go", number)]
    told += [("list", 4, []), ("copies", 3, 1), ("go", 4), ("list", 0, 1), ("copies", 0, []), ("come", 0), ("go", [])]
    told += [("thing", []), ("go", 0, 0), ("come", [], []), ("thing", 1, 1), ("list", []), ("copies", 1), ("come", 0, [])]
    told += [("lists", 0, []), ("List", 0, []), ("go ", 0), (b"go", 0), (["go"], 0), (("go",), 0), (0, "go"), ("", 0)]
    return told + [(None, 0), (None, 0, []), ("copy", 0, 1), ("went", 0), ("rank", 0, []), ({}, 0), (True, 0, 1)]


def wrong_lists():
    """Things of any kind that are no list of an asker for three things."""
    told = [thing for thing in anything() if thing not in ([], [[0]])]
    told += [[[3]], [[-1]], [[0], [3]], [[0, 0]], [[0], [0]], [[0], []], [[]], [[True]], [[False]], [["0"]], [[None]]]
    return told + [[(0,)], ([0],), [0], "0", [[0], (1,)], [[0, 1], [2], [1]], [[10 ** 59]], [[0], None], {0: [0]}]


def some_numberings(source, wishes):
    """Numberings of the askers and the things: as they are, turned about, and drawn ones."""
    askers = list(range(len(wishes[1])))
    things = list(range(len(wishes[0])))
    told = [(askers, things), (askers[::-1], things[::-1]), (askers[1:] + askers[:1], things), (askers, things[::-1])]
    for time in range(2):
        told.append((source.sample(askers, len(askers)), source.sample(things, len(things))))
    return copy.deepcopy(told)


def some_names(source, many):
    """So many unlike names, drawn by a source of numbers, of one letter and of eight among them."""
    told = []
    while len(told) < many:
        name = "".join(source.choice("abcxyz") for letter in range(source.choice([1, 2, 3, 8])))
        if name not in told:
            told.append(name)
    return told


def some_book(source, wishes):
    """A book of wishes, with drawn names."""
    return copy.deepcopy((wishes, some_names(source, len(wishes[0])), some_names(source, len(wishes[1]))))


BOOK = (([2, 1, 0], [[[0, 1], [2]], [[1], [0]], [], [[2]]]), ["fig", "pear", "plum"], ["ann", "bob", "cy", "fig"])


def wrong_books():
    """Things of any kind that are no book."""
    wishes, things, askers = BOOK
    told = anything() + [list(BOOK), BOOK[:2], BOOK + (None,), (wishes,), (None, things, askers), [BOOK]]
    told += [(thing, ["a"], ["b"]) for thing, part, number in wrong_wishes()]
    for odd in anything() + [things[:2], things + ["a"], things + things[:1], tuple(things), ["fig", "pear", "fig"],
                             ["fig", "pear", "Plum"],
                             ["fig", "pear", ""], ["fig", "pear", "abcdefghi"], ["fig", "pear", "a b"],
                             ["fig", "pear", "a1"], ["fig", "pear", None], ["fig", "pear", ["a"]],
                             ["fig", "pear", b"a"], ["fig", "pear", 1], ["fig", "pear", "a\n"], ["fig", "pear", "-"],
                             {"fig": 0, "pear": 1, "plum": 2}, "abc"]:
        told.append((wishes, odd, askers))
    for odd in anything() + [askers[:3], askers + ["a"], askers + askers[3:], tuple(askers), "abcd",
                             ["ann", "bob", "cy", "ann"],
                             ["ann", "bob", "cy", "Di"], ["ann", "bob", "cy", None], ["ann", "bob", "cy", "abcdefghi"],
                             ["ann", "bob", "cy", True], ["ann", "bob", "cy", ""], ["ann", "bob", "cy", "a="]]:
        told.append((wishes, things, odd))
    return told


def refused_with(test, kind, values, call, *handed):
    """Look that a call is refused so, and that nothing handed in is changed by it."""
    ahead = repr(handed)
    all_refused(test, kind, values, [(call, *handed)])
    test.assertEqual(repr(handed), ahead)
