"""Calls as lists of numbers, and answers taken apart, for all tests."""

from typegraph.graph import answers


def read(text):
    """A read call; text is a str, or a list of bytes."""
    text = list(text.encode("latin-1")) if isinstance(text, str) else list(text)
    return [0, len(text)] + text


def unify(a, b):
    return [1, a, b]


def meets(a, b):
    return [2, a, b]


def same(a, b):
    return [3, a, b]


def type_of(a):
    return [4, a]


def size(a):
    return [5, a]


def opens(a):
    return [6, a]


def copy(a, keep=()):
    return [7, a, len(keep)] + list(keep)


def becomes(a, b):
    return [8, a, b]


def mark():
    return [9]


def back():
    return [10]


def split(given):
    """The answers of a list that answers gave back, each a list."""
    found = []
    place = 0
    while place < len(given):
        end = place + 1 + given[place]
        assert given[place] >= 1 and end <= len(given), "a count is wrong"
        found.append(given[place + 1:end])
        place = end
    return found


def run(*calls):
    """The answers to these calls on one object, a list for each call."""
    found = split(answers([number for call in calls for number in call]))
    assert len(found) == len(calls), "not one answer a call"
    return found


def last(*calls):
    return run(*calls)[-1]


def written(parts, text):
    """The answer of type: how many parts, then the bytes."""
    return [parts] + list(text.encode("latin-1"))


def tower(levels, width, first=0):
    """Calls for types that stand in one another, each width times in the next, where the graph has first nodes.

    Each level is an open node and its P. The open node first is the only variable; the last P has all in it.
    """
    calls = [read("(P" + " a" * width + ")")] * levels
    return calls + [unify(first + 2 * level - 1, first + 2 * level) for level in range(1, levels)]


def look_at(count):
    """Calls that tell all that can be told of a graph of this many nodes."""
    calls = [call(a) for call in [type_of, size, opens] for a in range(count)]
    for a in range(count):
        calls += [same(a, b) for b in range(a)] + [meets(a, b) for b in range(a)]
    return calls + [read("z"), size(count + 1)]
