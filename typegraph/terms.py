"""What a graph's nodes stand for: in which order they hang together, what stands in them, how large they are, which
are alike, which become which others, how they are written.

A term can be far larger than its graph, so all but the writing goes once through the names, never through a term.
"""

from typegraph.nodes import NO_WORD
from typegraph.reading import CLOSING, OPENING

BLANK = 32
LETTER_V = 118


def bottom_up(graph):
    """The graph's names, each behind those of its arguments; names that stand in their own term are left out,
    and so are those in whose term such a name stands."""
    names = graph.all_names()
    missing = {}
    users = dict([(name, []) for name in names])
    for name in names:
        parts = sorted(set(graph.argument_names(name)))
        missing[name] = len(parts)
        for part in parts:
            users[part].append(name)
    order = [name for name in names if missing[name] == 0]
    done = 0
    while done < len(order):
        name = order[done]
        done += 1
        for user in users[name]:
            missing[user] -= 1
            if missing[user] == 0:
                order.append(user)
    return order


def goes_round(graph):
    return len(bottom_up(graph)) < len(graph.all_names())


def count_parts(graph, node):
    counts = {}
    for name in bottom_up(graph):
        counts[name] = 1 + sum([counts[part] for part in graph.argument_names(name)])
    return counts[graph.names[node]]


def names_within(graph, nodes):
    """The names, in order, of all that stands in the terms of these nodes, the nodes themselves too."""
    found = {}
    pending = [graph.names[node] for node in nodes]
    while pending:
        name = pending.pop()
        if name not in found:
            found[name] = True
            pending.extend(graph.argument_names(name))
    return sorted(found)


def variables_within(graph, node):
    return [name for name in names_within(graph, [node]) if graph.is_variable(name)]


def number_terms(graph):
    """A number for each name: like terms get one number, from the like numbers of their arguments."""
    numbers = {}
    shapes = {}
    for name in bottom_up(graph):
        if graph.is_variable(name):
            shape = (NO_WORD, (name,))
        else:
            shape = (graph.words[name], tuple([numbers[part] for part in graph.argument_names(name)]))
        numbers[name] = shapes.setdefault(shape, len(shapes))
    return numbers


def are_same(graph, a, b):
    numbers = number_terms(graph)
    return numbers[graph.names[a]] == numbers[graph.names[b]]


def can_become(graph, a, b):
    """Whether terms can be put in for the variables of a's term so that it is b's.

    Whatever is put in, what has one name becomes one term wherever it stands. So each name is gone into once; at its
    other places it is enough to see that it would become a like term there.
    """
    numbers = number_terms(graph)
    targets = {}
    pending = [(graph.names[a], graph.names[b])]
    while pending:
        pair = pending.pop()
        number = numbers[pair[1]]
        if pair[0] in targets:
            if targets[pair[0]] != number:
                return False
            continue
        targets[pair[0]] = number
        if graph.is_variable(pair[0]):
            continue
        if not graph.have_like_heads(pair[0], pair[1]):
            return False
        pending.extend(list(zip(graph.argument_names(pair[0]), graph.argument_names(pair[1]))))
    return True


def written_word(graph, name):
    if graph.is_variable(name):
        return [LETTER_V] + [ord(digit) for digit in str(name)]
    return list(graph.words[name])


def written_term(graph, node):
    """The node's term as bytes. With each name that is still to be written stands how many parentheses end
    behind it."""
    text = []
    pending = [(graph.names[node], 0)]
    while pending:
        piece = pending.pop()
        arguments = graph.argument_names(piece[0])
        if text:
            text.append(BLANK)
        if arguments:
            text.append(OPENING)
            pending.append((arguments[-1], piece[1] + 1))
            pending.extend([(argument, 0) for argument in reversed(arguments[:-1])])
        text.extend(written_word(graph, piece[0]))
        if not arguments:
            text.extend([CLOSING] * piece[1])
    return text
