"""Terms as shared graphs: the calls on one are answered by typegraph.graph.answers."""
