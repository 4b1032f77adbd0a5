"""What a graph's nodes stand for: in which order they hang together, how large they are, which are alike, how
they are written.

A term can be far larger than its graph, so all but the writing goes once through the names, never through a term.
"""

from typegraph.nodes import NO_WORD
from typegraph.reading import CLOSING, OPENING

BLANK = 32
LETTER_V = 118


def bottom_up(graph):
    """The graph's names, each behind those of its arguments; names that stand in their own term are left out,
    and so are those in whose term such a name stands."""
    missing = {}
    users = {}
    for name in graph.all_names():
        missing[name] = len(graph.arguments[name])
        users[name] = []
    for name in missing:
        for part in graph.argument_names(name):
            users[part].append(name)
    order = [name for name in missing if missing[name] == 0]
    done = 0
    while done < len(order):
        name = order[done]
        done += 1
        for user in users[name]:
            missing[user] -= 1
            if missing[user] == 0:
                order.append(user)
    return order


def goes_round(graph):
    return len(bottom_up(graph)) < len(graph.all_names())


def count_parts(graph, node):
    counts = {}
    for name in bottom_up(graph):
        counts[name] = 1 + sum([counts[part] for part in graph.argument_names(name)])
    return counts[graph.names[node]]


def are_same(graph, a, b):
    """Whether a and b have the same term: like terms get one number, from the like numbers of their arguments."""
    numbers = {}
    shapes = {}
    for name in bottom_up(graph):
        word = graph.words[name]
        if word == NO_WORD:
            shape = (NO_WORD, (name,))
        else:
            shape = (word, tuple([numbers[part] for part in graph.argument_names(name)]))
        numbers[name] = shapes.setdefault(shape, len(shapes))
    return numbers[graph.names[a]] == numbers[graph.names[b]]


def written_word(graph, name):
    if graph.words[name] == NO_WORD:
        return [LETTER_V] + [ord(digit) for digit in str(name)]
    return list(graph.words[name])


def written_term(graph, node):
    """The node's term as bytes. With each name that is still to be written stands how many parentheses end
    behind it."""
    text = []
    pending = [(graph.names[node], 0)]
    while pending:
        piece = pending.pop()
        arguments = graph.argument_names(piece[0])
        if text:
            text.append(BLANK)
        if arguments:
            text.append(OPENING)
            pending.append((arguments[-1], piece[1] + 1))
            pending.extend([(argument, 0) for argument in reversed(arguments[:-1])])
        text.extend(written_word(graph, piece[0]))
        if not arguments:
            text.extend([CLOSING] * piece[1])
    return text
