"""The nodes of a graph, and which of them are one."""

MOST_NODES = 100
NO_WORD = ()


class Graph:
    """Nodes, numbered from 0; what is one goes by its name, its least node.

    names has the name of each node. The constant of what is one, NO_WORD if it has none, and its arguments
    stand in words and arguments at its name; at other nodes these lists are not looked at any more.
    """

    def __init__(self):
        self.names = []
        self.words = []
        self.arguments = []

    def has_node(self, node):
        return 0 <= node < len(self.names)

    def has_room(self, more):
        return len(self.names) + more <= MOST_NODES

    def add_node(self, word, arguments):
        node = len(self.names)
        self.names.append(node)
        self.words.append(word)
        self.arguments.append(arguments)
        return node

    def all_names(self):
        return [node for node, name in enumerate(self.names) if node == name]

    def argument_names(self, name):
        return [self.names[argument] for argument in self.arguments[name]]

    def is_variable(self, name):
        return self.words[name] == NO_WORD

    def have_like_heads(self, first, second):
        """Whether what has these names has the same constant, with as many arguments."""
        return self.words[first] == self.words[second] and len(self.arguments[first]) == len(self.arguments[second])

    def count_variables(self):
        return len([name for name in self.all_names() if self.is_variable(name)])

    def duplicate(self):
        other = Graph()
        other.become(self)
        return other

    def become(self, other):
        self.names = list(other.names)
        self.words = list(other.words)
        self.arguments = list(other.arguments)
