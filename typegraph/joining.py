"""Makes two nodes of a graph one, with all that follows from it."""

from typegraph.terms import goes_round

TAKEN = 0
CLASHES = -7
ROUND = -9


def are_unlike(graph, low, high):
    """Whether what has these names has constants that can't be one."""
    if graph.is_variable(low) or graph.is_variable(high):
        return False
    return not graph.have_like_heads(low, high)


def merge(graph, low, high):
    """Let what has the name high be one with what has the lesser name low."""
    if graph.is_variable(low):
        graph.words[low] = graph.words[high]
        graph.arguments[low] = graph.arguments[high]
    graph.names = [low if name == high else name for name in graph.names]


def make_one(graph, a, b):
    """Make a and b one and answer TAKEN, or the refusal; after a refusal the graph is of no use any more.

    That it goes round is looked at last, since a clash, found however late, is told ahead of it.
    """
    pairs = [(a, b)]
    while pairs:
        pair = pairs.pop()
        low = min(graph.names[pair[0]], graph.names[pair[1]])
        high = max(graph.names[pair[0]], graph.names[pair[1]])
        if low == high:
            continue
        if are_unlike(graph, low, high):
            return CLASHES
        # where one of them is a variable it has no arguments, and zip gives no pair
        pairs.extend(list(zip(graph.arguments[low], graph.arguments[high])))
        merge(graph, low, high)
    return ROUND if goes_round(graph) else TAKEN
