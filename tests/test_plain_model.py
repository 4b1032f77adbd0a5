"""The program against a slow model that follows the document's words one by one, on many made-up lists of calls."""

import random
import re
import unittest

from tests.helper import back, becomes, copy, mark, meets, opens, read, run, same, size, type_of, unify

LOWER = re.compile(r"[a-z][a-zA-Z0-9']*\Z")
CONSTANT = re.compile(r"([A-Z][a-zA-Z0-9']*|->)\Z")


class NoType(Exception):
    pass


def tree_from(tokens, depth):
    if not tokens:
        raise NoType
    token = tokens.pop(0)
    if token == ")":
        raise NoType
    if token != "(":
        return token
    if depth == 40:
        raise NoType
    trees = []
    while tokens and tokens[0] != ")":
        trees.append(tree_from(tokens, depth + 1))
    if not tokens:
        raise NoType
    tokens.pop(0)
    return trees


def check_type(tree):
    if isinstance(tree, str):
        if not LOWER.match(tree) and not CONSTANT.match(tree):
            raise NoType
        return
    if len(tree) < 2 or not isinstance(tree[0], str) or not CONSTANT.match(tree[0]):
        raise NoType
    for part in tree[1:]:
        check_type(part)


def parse(text):
    if len(text) > 600 or re.search(r"[^ \n!#-~]", text):
        raise NoType
    tokens = re.findall(r"[()]|[^() \n]+", text)
    tree = tree_from(tokens, 0)
    if tokens:
        raise NoType
    check_type(tree)
    return tree


def words_of(tree):
    return [tree] if isinstance(tree, str) else [word for part in tree for word in words_of(part)]


class Model:
    """Nodes as (constant or None, arguments), the pairs that were made one, and both as they were at each mark."""

    def __init__(self):
        self.nodes = []
        self.pairs = []
        self.marks = []

    def read(self, text):
        try:
            tree = parse(text)
        except NoType:
            return [-1]
        words = words_of(tree)
        lower = sorted({word for word in words if LOWER.match(word)}, key=words.index)
        if len(self.nodes) + len(lower) + sum(1 for word in words if CONSTANT.match(word)) > 100:
            return [-8]
        nodes = {}
        for word in lower:
            nodes[word] = len(self.nodes)
            self.nodes.append((None, []))
        return [self.add(tree, nodes)] + list(nodes.values())

    def add(self, tree, nodes):
        if isinstance(tree, str) and tree in nodes:
            return nodes[tree]
        parts = [tree] if isinstance(tree, str) else tree
        arguments = [self.add(part, nodes) for part in parts[1:]]
        self.nodes.append((parts[0], arguments))
        return len(self.nodes) - 1

    def groups(self, pairs):
        """Sets of nodes that are one, once these pairs and all that follows are; -7 if that clashes."""
        groups = [{node} for node in range(len(self.nodes))]
        pairs = list(pairs)
        while pairs:
            a, b = pairs.pop()
            both = [group for group in groups if a in group or b in group]
            if len(both) == 1:
                continue
            groups = [group for group in groups if group not in both] + [both[0] | both[1]]
            for first in both[0]:
                for second in both[1]:
                    left, right = self.nodes[first], self.nodes[second]
                    if left[0] is not None and right[0] is not None:
                        if left[0] != right[0] or len(left[1]) != len(right[1]):
                            return -7
                        pairs += list(zip(left[1], right[1]))
        return groups

    def term(self, node, groups, above, most):
        """The node's type as nested tuples; -9 if it stands in itself, None if it has more than most parts."""
        group = next(group for group in groups if node in group)
        if min(group) in above:
            return -9
        whole = [self.nodes[other] for other in sorted(group) if self.nodes[other][0] is not None]
        if not whole:
            return ("v" + str(min(group)),)
        found = [whole[0][0]]
        for argument in whole[0][1]:
            part = self.term(argument, groups, above + [min(group)], most)
            if part == -9 or part is None:
                return part
            found.append(part)
            if parts_of(tuple(found)) > most:
                return None
        return tuple(found)

    def try_unify(self, a, b):
        groups = self.groups(self.pairs + [(a, b)])
        if groups == -7:
            return -7
        if any(self.term(node, groups, [], 10 ** 5) == -9 for node in range(len(self.nodes))):
            return -9
        return self.variables(self.groups(self.pairs)) - self.variables(groups)

    def variables(self, groups):
        return sum(1 for group in groups if all(self.nodes[node][0] is None for node in group))

    def look(self, name, a, b):
        if not 0 <= a < len(self.nodes) or not 0 <= b < len(self.nodes):
            return [-3]
        if name == "unify":
            outcome = self.try_unify(a, b)
            if outcome >= 0:
                self.pairs.append((a, b))
            return [outcome]
        if name == "meets":
            return [1 if self.try_unify(a, b) >= 0 else 0]
        groups = self.groups(self.pairs)
        first = self.term(a, groups, [], 10 ** 5)
        if name == "same":
            return [1 if first == self.term(b, groups, [], 10 ** 5) else 0]
        if name == "becomes":
            return [1 if fits(first, self.term(b, groups, [], 10 ** 5), {}) else 0]
        if name == "size":
            return [parts_of(first)]
        if name == "opens":
            names = sorted({int(leaf[1:]) for leaf in leaves_of(first) if leaf[0] == "v"})
            return [len(names)] + names
        if parts_of(first) > 200:
            return [-6]
        return [parts_of(first)] + [ord(sign) for sign in written(first)]


    def name(self, node, groups):
        return min(next(group for group in groups if node in group))

    def inside(self, node, groups):
        """The names of all that stands in the node's type."""
        found = {self.name(node, groups)}
        for other, (word, arguments) in enumerate(self.nodes):
            if self.name(other, groups) in found and word is not None:
                found = found.union(*[self.inside(argument, groups) for argument in arguments])
        return found

    def copy(self, a, keep):
        if any(not 0 <= node < len(self.nodes) for node in [a] + keep):
            return [-3]
        groups = self.groups(self.pairs)
        kept = {leaf for node in keep for leaf in leaves_of(self.term(node, groups, [], 10 ** 5))}
        names = []
        for name in sorted(self.inside(a, groups)):
            leaves = leaves_of(self.term(name, groups, [], 10 ** 5))
            if any(leaf[0] == "v" and leaf not in kept for leaf in leaves):
                names.append(name)
        if len(self.nodes) + len(names) > 100:
            return [-8]
        count = len(self.nodes)
        for name in names:
            group = next(group for group in groups if name in group)
            word, arguments = max((self.nodes[node] for node in group), key=lambda pair: pair[0] is not None)
            heads = [self.name(argument, groups) for argument in arguments]
            self.nodes.append((word, [count + names.index(head) if head in names else argument
                                      for head, argument in zip(heads, arguments)]))
        name = self.name(a, groups)
        return [count + names.index(name)] if name in names else [a]

    def mark(self):
        if len(self.marks) == 16:
            return [-8]
        self.marks.append((list(self.nodes), list(self.pairs)))
        return [len(self.marks)]

    def back(self):
        if not self.marks:
            return [-5]
        self.nodes, self.pairs = self.marks.pop()
        return [len(self.nodes)]


def leaves_of(term):
    """The words of a type's variables, and of its constants without arguments."""
    return {term[0]} if len(term) == 1 else {leaf for part in term[1:] for leaf in leaves_of(part)}


def fits(term, other, put_in):
    """Whether the term becomes the other; put_in has what was put in for its variables so far."""
    if term[0][0] == "v":
        return put_in.setdefault(term[0], other) == other
    return (term[0] == other[0] and len(term) == len(other)
            and all(fits(part, there, put_in) for part, there in zip(term[1:], other[1:])))


def parts_of(term):
    return 1 + sum(parts_of(part) for part in term[1:])


def written(term):
    if len(term) == 1:
        return term[0]
    return "(" + " ".join([term[0]] + [written(part) for part in term[1:]]) + ")"


def some_type(source, depth):
    if depth == 0 or source.random() < 0.4:
        return source.choice(["a", "b", "c", "d", "A", "B"])
    width = source.choice([1, 2, 2, 2, 3])
    return "(" + source.choice(["F", "F", "F", "->"]) + "".join(
        " " + some_type(source, depth - 1) for place in range(width)) + ")"


def some_text(source):
    if source.random() < 0.8:
        return some_type(source, 2)
    signs = ["(", ")", " ", "\n", "a", "B", "->", "(F ", "(F a)", "0", "'", "-", "\"", "\t", "Ab'0", "zZ9"]
    return "".join(source.choice(signs) for place in range(source.randint(0, 9)))


ON_TWO = {"unify": unify, "meets": meets, "same": same, "becomes": becomes}
ON_ONE = {"type": type_of, "size": size, "opens": opens}
OFTEN = ["read", "unify", "copy", "becomes"] * 2 + ["unify", "mark", "back"] + list(ON_TWO) + list(ON_ONE)


def some_node(source, model):
    """Seldom a number that is no node."""
    if not model.nodes or source.random() < 0.05:
        return source.choice([-1, len(model.nodes)])
    return source.randrange(len(model.nodes))


def some_call(source, model, name):
    """A call, and what the model answers."""
    a = some_node(source, model)
    b = some_node(source, model)
    if name == "read":
        text = some_text(source)
        return read(text), model.read(text)
    if name == "copy":
        keep = [some_node(source, model) for place in range(source.choice([0, 0, 1, 2, 5]))]
        return copy(a, keep), model.copy(a, keep)
    if name == "mark":
        return mark(), model.mark()
    if name == "back":
        return back(), model.back()
    if name in ON_TWO:
        return ON_TWO[name](a, b), model.look(name, a, b)
    return ON_ONE[name](a), model.look(name, a, a)


class AgainstModel(unittest.TestCase):
    def check(self, seed):
        source = random.Random(seed)
        model = Model()
        names = ["read"] * 3 + [source.choice(OFTEN) for step in range(source.randint(2, 40))]
        steps = [(name,) + some_call(source, model, name) for name in names]
        self.assertEqual(run(*[step[1] for step in steps]), [step[2] for step in steps], seed)
        return [(step[0], step[2][0]) for step in steps]

    def test_many_lists(self):
        seen = {}
        for seed in range(2000):
            for step in self.check(seed):
                seen[step] = seen.get(step, 0) + 1
        for step in [("read", -1), ("unify", -9), ("unify", -7), ("unify", -3), ("unify", 0), ("unify", 1), ("unify", 2),
                     ("meets", 0), ("meets", 1), ("same", 0), ("same", 1), ("type", 1), ("size", 3), ("opens", 0),
                     ("opens", 2), ("copy", -3), ("copy", 3), ("copy", 20), ("becomes", 0), ("becomes", 1), ("mark", 1),
                     ("mark", 2), ("back", -5), ("back", 5)]:
            self.assertGreater(seen.get(step, 0), 15, step)

    def test_many_texts(self):
        source = random.Random(5)
        signs = ["(", "(", ")", ")", " ", "\n", "a", "B", "->", "(F ", "(F a)", "0", "'", "-", "\"", "~"]
        taken = 0
        for time in range(20000):
            text = "".join(source.choice(signs) for place in range(source.randint(0, 8)))
            expected = Model().read(text)
            self.assertEqual(run(read(text)), [expected], text)
            taken += expected != [-1]
        self.assertGreater(taken, 500)


if __name__ == "__main__":
    unittest.main()
