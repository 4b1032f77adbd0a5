"""Copies what a node stands for, with new variables for those that aren't kept."""

from typegraph.terms import bottom_up, names_within


def names_to_copy(graph, node, keep):
    """In order, the names of what stands in the node's term and has a variable in it that isn't kept."""
    kept = dict([(name, True) for name in names_within(graph, keep)])
    changes = {}
    for name in bottom_up(graph):
        if graph.is_variable(name):
            changes[name] = name not in kept
        else:
            changes[name] = any([changes[part] for part in graph.argument_names(name)])
    return [name for name in names_within(graph, [node]) if changes[name]]


def add_copies(graph, names):
    """Add a new node for each of these names; answer them by name.

    They are numbered ahead of being added, since what stands in a term may have the larger name.
    """
    first = len(graph.names)
    copies = dict([(name, first + place) for place, name in enumerate(names)])
    for name in names:
        arguments = [copies.get(graph.names[argument], argument) for argument in graph.arguments[name]]
        graph.add_node(graph.words[name], tuple(arguments))
    return copies
