"""Ways, steps and charts, taken word for word from the document, without regard to time: for small texts only."""

import itertools

WORD = "0123456789ABCDEFGHIJKLMNOPQRSTUVWXYZ_abcdefghijklmnopqrstuvwxyz"


def edge_stands(kind, text, index):
    """Point [24]."""
    before = index > 0 and text[index - 1] in WORD
    after = index < len(text) and text[index] in WORD
    return {
        "start": index == 0,
        "end": index == len(text),
        "line start": index == 0 or text[index - 1] == "\n",
        "line end": index == len(text) or text[index] == "\n",
        "word edge": before + after == 1,
        "no word edge": before + after != 1,
    }[kind]


def set_name(row, name, start, end):
    """Point [25]."""
    spans = {known: (s, e) for known, s, e in row}
    spans[name] = (start, end)
    return tuple((known, *spans[known]) for known in sorted(spans))


class Counted:
    """Counts the visits of nodes, and the steps of runs."""

    def __init__(self):
        self.visits = 0
        self.steps = 0


def ways(tree, text, i, row, counted=None):
    """Yield all ways as triples (end, row, derivation), in their order: points [26] and [34].

    If `counted` is given, it counts the visits of nodes, which are the calls of this function.
    """
    kind = tree[0]
    if counted:
        counted.visits += 1
    if kind == "seq":
        for end, after, parts in ways_of_seq(tree[1], text, i, row, counted):
            yield end, after, ("seq", parts)
    elif kind == "alt":
        for number, branch in enumerate(tree[1]):
            for end, after, told in ways(branch, text, i, row, counted):
                yield end, after, ("alt", number, told)
    elif kind == "repeat":
        for end, after, parts in ways_of_repeat(tree, text, i, row, 0, counted):
            yield end, after, ("repeat", parts)
    elif kind == "group":
        for end, after, told in ways(tree[2], text, i, row, counted):
            yield end, set_name(after, tree[1], i, end), ("group", told)
    else:
        if kind == "look" and counted:
            for start in [i] if tree[1] == "ahead" else range(i + 1):
                counted.visits += visits(tree[3], text, start, ())
        end = end_of_leaf(tree, text, i, row)
        if end is not None:
            yield end, row, (kind,)


def ways_of_seq(parts, text, i, row, counted):
    if not parts:
        yield i, row, ()
        return
    for middle, between, told in ways(parts[0], text, i, row, counted):
        for end, after, rest in ways_of_seq(parts[1:], text, middle, between, counted):
            yield end, after, (told,) + rest


def ways_of_repeat(tree, text, i, row, done, counted):
    body, least, most, lazy = tree[1:]
    if lazy and done >= least:
        yield i, row, ()
    if most is None or done < most:
        for middle, between, told in ways(body, text, i, row, counted):
            if done < least or middle > i:
                for end, after, rest in ways_of_repeat(tree, text, middle, between, done + 1, counted):
                    yield end, after, (told,) + rest
    if not lazy and done >= least:
        yield i, row, ()


def end_of_leaf(tree, text, i, row):
    kind = tree[0]
    if kind == "empty":
        return i
    if kind == "set":
        return i + 1 if i < len(text) and text[i] in tree[1] else None
    if kind == "edge":
        return i if edge_stands(tree[1], text, i) else None
    if kind == "same":
        for name, start, end in row:
            if name == tree[1] and text[i:i + end - start] == text[start:end]:
                return i + end - start
        return None
    side, wanted, body = tree[1:]
    if side == "ahead":
        found = any(True for _ in ways(body, text, i, ()))
    else:
        found = any(way[0] == i for start in range(i + 1) for way in ways(body, text, start, ()))
    return i if found == wanted else None


def outcome_list(tree, text, i=0, row=()):
    """Point [27]."""
    found = []
    for end, after, _ in ways(tree, text, i, row):
        if (end, after) not in found:
            found.append((end, after))
    return found


def first(tree, text, i=0, whole=False):
    """Point [28]."""
    for end, after, _ in ways(tree, text, i, ()):
        if not whole or end == len(text):
            return (end, after)
    return None


def answer(tree, text, start=0):
    """Point [29]."""
    for i in range(start, len(text) + 1):
        way = first(tree, text, i)
        if way is not None:
            return (i,) + way
    return None


def visits(tree, text, i, row):
    """The number of visits of nodes: point [33]."""
    counted = Counted()
    for _ in ways(tree, text, i, row, counted):
        pass
    return counted.visits


def few_ways(tree, text, i=0, row=(), limit=400):
    """Return the list of all ways, or None if there are too many of them for a test."""
    found = list(itertools.islice(ways(tree, text, i, row), limit))
    return None if len(found) == limit else found


def captured(row, name):
    """Return the span to which the row sets the name, or None."""
    for known, start, end in row:
        if known == name:
            return (start, end)
    return None


def run(steps, text, index, goal, counted):
    """Yield the successes of a continued run of steps: points [31] and [32]."""
    stack = [(0, index, (), {})]
    while stack:
        counter, i, row, slots = stack.pop()
        while counter is not None:
            counted.steps += 1
            kind, *rest = steps[counter]
            counter += 1
            if kind == "sign":
                i, counter = (i + 1, counter) if i < len(text) and text[i] in rest[0] else (i, None)
            elif kind == "fork":
                stack.append((rest[1], i, row, slots))
                counter = rest[0]
            elif kind == "jump":
                counter = rest[0]
            elif kind == "store":
                slots = dict(slots)
                slots[rest[0]] = i
            elif kind == "moved":
                counter = None if slots[rest[0]] == i else counter
            elif kind == "close":
                row = set_name(row, rest[1], slots[rest[0]], i)
            elif kind == "edge":
                counter = counter if edge_stands(rest[0], text, i) else None
            elif kind == "look":
                counter = counter if look_succeeds(rest, text, i, counted) == rest[1] else None
            elif kind == "same":
                end = end_of_leaf(("same", rest[0]), text, i, row)
                i, counter = (i, None) if end is None else (end, counter)
            elif kind == "accept":
                if goal in (None, i):
                    yield i, row
                counter = None
            else:
                raise ValueError(kind)


def look_succeeds(look, text, i, counted):
    side, _, steps = look
    if side == "ahead":
        return any(True for _ in run(steps, text, i, None, counted))
    return any(True for start in range(i, -1, -1) for _ in run(steps, text, start, i, counted))


def walks(chart, text, i, place=0, row=(), slots=()):
    """Yield the walks through a chart as pairs (end, row), in their order: point [38]."""
    places, looks = chart
    for tests, marks, target in places[place][1]:
        if all(does_hold(test, looks, text, i) for test in tests):
            after, stored = row, dict(slots)
            for mark in marks:
                if mark[0] == "store":
                    stored[mark[1]] = i
                else:
                    after = set_name(after, mark[2], stored[mark[1]], i)
            if target == -1:
                yield i, after
            elif i < len(text) and text[i] in places[target][0]:
                yield from walks(chart, text, i + 1, target, after, stored)


def does_hold(test, looks, text, i):
    if test[0] == "edge":
        return edge_stands(test[1], text, i)
    side, chart = looks[test[1]]
    if side == "ahead":
        return any(True for _ in walks(chart, text, i)) == test[2]
    return any(end == i for start in range(i + 1) for end, _ in walks(chart, text, start)) == test[2]


def first_of_each_end(pairs):
    """Return the list of the pairs (end, row) with the first row for each end."""
    found = {}
    for end, row in pairs:
        found.setdefault(end, row)
    return list(found.items())


def begun_lists(chart, text, index):
    """Return the list of the tuples of places to which begun walks lead, index by index: point [40]."""
    found = []
    begun_walks(chart, text, index, 0, 0, found)
    return [tuple(places) for places in found]


def begun_walks(chart, text, i, place, done, found):
    """Go through the begun walks in their order; note in `found` where they stand when `done` signs are read."""
    places, looks = chart
    if len(found) == done:
        found.append([])
    if place not in found[done]:
        found[done].append(place)
    for tests, _, target in places[place][1]:
        if target != -1 and i < len(text) and text[i] in places[target][0]:
            if all(does_hold(test, looks, text, i) for test in tests):
                begun_walks(chart, text, i + 1, target, done + 1, found)


def looks_there(side, tree, text):
    """Return a list that tells for each index whether a look finds the tree there: point [26]."""
    if side == "ahead":
        return [any(True for _ in ways(tree, text, i, ())) for i in range(len(text) + 1)]
    ends = [way[0] for start in range(len(text) + 1) for way in ways(tree, text, start, ())]
    return [i in ends for i in range(len(text) + 1)]


def result(tree, text, mode):
    """Return the result (start, end, row) of a tree on a text in one of the three modes, or None: point [41]."""
    if mode == "search":
        return answer(tree, text)
    way = first(tree, text, 0, mode == "whole")
    return None if way is None else (0,) + way


def end_order(tree, text):
    """Return the list of the different ends of the ways from index 0, in the order in which they first occur."""
    return list(dict.fromkeys(way[0] for way in ways(tree, text, 0, ())))
