"""Point 1, and the words that say what a text and a type are."""

import unittest

from tests.helper import last, look_at, read, run, size, type_of, unify, written

REFUSED = [-1]


def nested(depth):
    return "(F " * depth + "a" + ")" * depth


class Numbers(unittest.TestCase):
    def test_examples(self):
        self.assertEqual(run(read("(-> a (List a))"), read("(-> Int b)")), [[2, 0], [5, 3]])
        self.assertEqual(run(read("(P a b)"), read("(P b (P a a))")), [[2, 0, 1], [6, 3, 4]])

    def test_a_lower_name_alone_is_its_own_node(self):
        self.assertEqual(run(read("a"), read("a")), [[0, 0], [1, 1]])

    def test_a_constant_alone_has_no_open_nodes(self):
        self.assertEqual(run(read("Int"), read("->")), [[0], [1]])

    def test_open_nodes_come_in_the_order_in_which_names_stand_first(self):
        self.assertEqual(last(read("(F (G b a) c a (H b d))")), [6, 0, 1, 2, 3])
        calls = [read("(F (G b a) c a (H b d))")] + [type_of(a) for a in range(7)]
        self.assertEqual(run(*calls)[1:], [
            written(1, "v0"), written(1, "v1"), written(1, "v2"), written(1, "v3"),
            written(3, "(G v0 v1)"), written(3, "(H v0 v3)"),
            written(9, "(F (G v0 v1) v2 v1 (H v0 v3))"),
        ])

    def test_constants_stand_behind_their_arguments_from_left_to_right(self):
        calls = [read("(A (B C D) E (B C D))")] + [type_of(a) for a in range(8)]
        self.assertEqual(run(*calls), [
            [7], written(1, "C"), written(1, "D"), written(3, "(B C D)"), written(1, "E"),
            written(1, "C"), written(1, "D"), written(3, "(B C D)"),
            written(8, "(A (B C D) E (B C D))"),
        ])

    def test_each_read_makes_its_own_variables(self):
        self.assertEqual(last(read("(F a)"), read("(F a)"), type_of(1)), written(2, "(F v0)"))
        self.assertEqual(last(read("(F a)"), read("(F a)"), type_of(3)), written(2, "(F v2)"))

    def test_a_later_read_counts_on_after_unify(self):
        self.assertEqual(last(read("a"), read("Int"), unify(0, 1), read("(F b a b)")), [4, 2, 3])


class Texts(unittest.TestCase):
    def refused(self, text):
        self.assertEqual(run(read(text), size(0), read("a")), [REFUSED, [-3], [0, 0]], text)

    def taken(self, text, answer):
        self.assertEqual(last(read(text)), answer, text)

    def test_blanks(self):
        self.taken(" \n (  F\na  (G\n\n b))\n ", [3, 0, 1])
        self.taken("(F(G a)b)", [3, 0, 1])
        self.taken("(F a(G b)c)", [4, 0, 1, 2])
        self.taken("\nInt ", [0])

    def test_no_tree(self):
        for text in ["", " ", "\n", " \n \n"]:
            self.refused(text)

    def test_two_trees(self):
        for text in ["a b", "a\nb", "(F a) b", "a (F a)", "(F a)(F a)", "Int Int", "(F a) ()", "a a"]:
            self.refused(text)

    def test_parentheses_that_do_not_match(self):
        for text in ["(", ")", "(F a", "F a)", "(F a))", "((F a)", ")(", "(F (G a)", "a)", "(a", "(F", ") a", ")(F a)",
                     "(F) a)", "()F a)", "(F a) )", "(F (G) a) b)"]:
            self.refused(text)

    def test_bytes_that_stand_in_no_readable_text(self):
        for byte in [34, 127, 9, 0, 255, 13, 11, 31, 128, 160]:
            for text in [[byte], [97, byte], [byte, 97], [97, 32, byte], [40, 70, 32, 97, byte, 41],
                         [40, 70, byte, 97, 41]]:
                self.refused(text)

    def test_trees_that_are_no_type(self):
        for text in ["()", "(a b)", "((F) a)", "(F)", "(->)", "(F ())", "(F (G))", "((F a) b)", "((->) a b)",
                     "(F (a b))", "(a)", "((a))", "((F a))", "(F a (G))", "(F (() a))", "(() a)", "(1 a)"]:
            self.refused(text)

    def test_words_that_are_no_name(self):
        for word in ["1a", "a-b", "1", "'", "'a", "A-B", "A.", "_a", "a_", "-", "--", "->>", "-->", "-> >", ">",
                     "->a", "a->", "A->", ">-", "a,", "~", "!", "a@", "a[", "a`", "a{", "a/", "a:", "a&", "@", "[",
                     "`", "{"]:
            self.refused(word)
            self.refused("(F " + word + ")")
            self.refused("(" + word + " a)")

    def test_names(self):
        for word in ["a", "z", "aZ09'", "zA", "a'", "a''0", "m9z", "aaz"]:
            self.taken(word, [0, 0])
            self.taken("(F " + word + ")", [1, 0])
        for word in ["A", "Z", "Az09'", "ZA", "A'", "->", "M0", "AaZ"]:
            self.taken(word, [0])
            self.taken("(" + word + " a)", [1, 0])
            self.taken("(" + word + " " + word + ")", [1])

    def test_names_are_told_apart_by_all_their_bytes(self):
        self.taken("(F a a' aa aA a0 a)", [5, 0, 1, 2, 3, 4])

    def test_600_and_601_bytes(self):
        self.taken("a" * 600, [0, 0])
        self.refused("a" * 601)
        self.taken(" " * 599 + "a", [0, 0])
        self.refused(" " * 600 + "a")
        self.refused("a" + " " * 600)
        self.taken("(F" + " a" * 298 + ")" + " ", [1, 0])
        self.refused("a" + "\n" * 9999)

    def test_nested_40_and_41_deep(self):
        self.taken(nested(40), [40, 0])
        self.refused(nested(41))
        self.refused("(F b " + nested(40) + ")")
        self.taken("(F b " + nested(39) + ")", [41, 0, 1])
        self.taken("(F " + nested(39) + " " + nested(39) + ")", [79, 0])
        self.refused("(" * 300 + ")" * 300)

    def test_constants_are_kept_whole(self):
        word = "A" + "b'0Z" * 140
        self.assertEqual(last(read("(" + word + " x)"), type_of(1)), written(2, "(" + word + " v0)"))


class Room(unittest.TestCase):
    def test_100_and_101_nodes_at_once(self):
        self.assertEqual(last(read("(F" + " A" * 99 + ")")), [99])
        self.assertEqual(run(read("(F" + " A" * 100 + ")"), read("a")), [[-8], [0, 0]])

    def test_100_and_101_nodes_one_by_one(self):
        given = run(*([read("A")] * 101 + [size(99), size(100)]))
        self.assertEqual(given, [[a] for a in range(100)] + [[-8], [1], [-3]])

    def test_names_count_once_and_constants_as_often_as_they_stand(self):
        full = read("(F" + " A" * 96 + ")")
        self.assertEqual(run(full, read("(F a a a b b)")), [[96], [99, 97, 98]])
        self.assertEqual(run(full, read("(F a A A)")), [[96], [-8]])
        self.assertEqual(run(full, read("(F a b c)")), [[96], [-8]])
        self.assertEqual(run(full, read("(F a (F a))"), read("a")), [[96], [99, 97], [-8]])

    def test_nodes_that_are_one_still_count(self):
        calls = [read("a")] * 100 + [unify(0, 1), read("a")]
        self.assertEqual(last(*calls), [-8])

    def test_no_type_is_told_ahead_of_no_room(self):
        full = read("(F" + " A" * 99 + ")")
        self.assertEqual(run(full, read("(a b)"), read("a b"), read("a" * 601), read("a")),
                         [[99], [-1], [-1], [-1], [-8]])

    def test_after_a_refusal_the_graph_is_as_it_was(self):
        start = [read("(F a (G b))"), read("(F c d)"), unify(0, 4)]
        plain = run(*(start + look_at(7)))[3:]
        for text in ["(F e (e f))", "(F e f", "(F" + " A" * 94 + ")"]:
            given = run(*(start + [read(text)] + look_at(7)))
            self.assertLess(given[3][0], 0)
            self.assertEqual(given[4:], plain)


if __name__ == "__main__":
    unittest.main()
