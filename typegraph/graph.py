"""The calls on a graph of terms, as one list of whole numbers, and their answers."""

from typegraph.copying import add_copies, names_to_copy
from typegraph.joining import TAKEN, make_one
from typegraph.nodes import NO_WORD, Graph
from typegraph.reading import is_lower_name, read_steps
from typegraph.terms import are_same, can_become, count_parts, variables_within, written_term

READ = 0
UNIFY = 1
MEETS = 2
SAME = 3
WRITE = 4
SIZE = 5
OPENS = 6
COPY = 7
BECOMES = 8
MARK = 9
BACK = 10

# how many nodes a call names ahead of its row, by the call's number
NODES_ASKED = {0: 0, 1: 2, 2: 2, 3: 2, 4: 1, 5: 1, 6: 1, 7: 1, 8: 2, 9: 0, 10: 0}

NO_TERM = -1
NO_NODE = -3
NO_MARK = -5
TOO_LARGE = -6
NO_ROOM = -8

MOST_WRITTEN_PARTS = 200
MOST_MARKS = 16


def read(graph, text):
    steps = read_steps(text)
    if steps is None:
        return [NO_TERM]
    variables = list(dict([(step[0], True) for step in steps if is_lower_name(step[0])]))
    constants = [step for step in steps if not is_lower_name(step[0])]
    if not graph.has_room(len(variables) + len(constants)):
        return [NO_ROOM]
    variable_nodes = {}
    for word in variables:
        variable_nodes[word] = graph.add_node(NO_WORD, ())
    return [add_constants(graph, steps, variable_nodes)] + list(variable_nodes.values())


def add_constants(graph, steps, variable_nodes):
    """Add a node for each constant of the steps; answer the node of the last step, which is the whole term's."""
    pending = []
    for step in steps:
        if step[0] in variable_nodes:
            pending.append(variable_nodes[step[0]])
        else:
            first = len(pending) - step[1]
            node = graph.add_node(step[0], tuple(pending[first:]))
            pending = pending[:first] + [node]
    return pending[0]


def unify(graph, a, b):
    trial = graph.duplicate()
    outcome = make_one(trial, a, b)
    if outcome != TAKEN:
        return [outcome]
    fewer = graph.count_variables() - trial.count_variables()
    graph.become(trial)
    return [fewer]


def meets(graph, a, b):
    return [1 if make_one(graph.duplicate(), a, b) == TAKEN else 0]


def same(graph, a, b):
    return [1 if are_same(graph, a, b) else 0]


def write(graph, a):
    parts = count_parts(graph, a)
    if parts > MOST_WRITTEN_PARTS:
        return [TOO_LARGE]
    return [parts] + written_term(graph, a)


def opens(graph, a):
    names = variables_within(graph, a)
    return [len(names)] + names


def copy(graph, a, keep):
    names = names_to_copy(graph, a, keep)
    if not graph.has_room(len(names)):
        return [NO_ROOM]
    return [add_copies(graph, names).get(graph.names[a], a)]


def becomes(graph, a, b):
    return [1 if can_become(graph, a, b) else 0]


def mark(graph, marks):
    if len(marks) == MOST_MARKS:
        return [NO_ROOM]
    marks.append(graph.duplicate())
    return [len(marks)]


def back(graph, marks):
    if len(marks) == 0:
        return [NO_MARK]
    graph.become(marks.pop())
    return [len(graph.names)]


def answer_of_two(graph, number, a, b):
    """The answer of a call with a and b, which are nodes."""
    if number == UNIFY:
        return unify(graph, a, b)
    if number == MEETS:
        return meets(graph, a, b)
    if number == SAME:
        return same(graph, a, b)
    return becomes(graph, a, b)


def answer_of_one(graph, number, a, keep):
    """The answer of a call with a, which is a node; keep is empty, or nodes that copy keeps."""
    if number == WRITE:
        return write(graph, a)
    if number == SIZE:
        return [count_parts(graph, a)]
    if number == OPENS:
        return opens(graph, a)
    return copy(graph, a, keep)


def answer(graph, marks, call):
    """The numbers that one call, with all that belongs to it, is answered; a refusal is its number alone."""
    number = call[0]
    if number == READ:
        return read(graph, call[2:])
    if number == MARK:
        return mark(graph, marks)
    if number == BACK:
        return back(graph, marks)
    nodes = call[1:1 + NODES_ASKED[number]]
    keep = call[3:] if number == COPY else []
    if not all([graph.has_node(node) for node in nodes + keep]):
        return [NO_NODE]
    if len(nodes) == 2:
        return answer_of_two(graph, number, nodes[0], nodes[1])
    return answer_of_one(graph, number, nodes[0], keep)


def call_end(calls, place):
    """Where the call ends that begins at place; a call's row has its length ahead of it."""
    end = place + 1 + NODES_ASKED[calls[place]]
    if calls[place] in (READ, COPY):
        return end + 1 + calls[end]
    return end


def answers(calls):
    graph = Graph()
    marks = []
    given = []
    place = 0
    while place < len(calls):
        end = call_end(calls, place)
        numbers = answer(graph, marks, calls[place:end])
        given.append(len(numbers))
        given.extend(numbers)
        place = end
    return given
