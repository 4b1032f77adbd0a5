"""Points 10 and 11: mark and back."""

import unittest

from tests.helper import (back, becomes, copy, last, look_at, mark, meets, opens, read, run, same, size, type_of, unify,
                          written)

START = [read("(F a (G b))"), read("(F c d)"), unify(0, 4)]

CHANGES = [
    [], [read("(H e)")], [unify(3, 6)], [unify(1, 0)], [unify(5, 2)], [copy(3)], [copy(3, [1]), unify(0, 7), read("A")],
    [read("A"), unify(7, 0), copy(6), unify(5, 1)], [read("(F" + " A" * 92 + ")")],
]


class Mark(unittest.TestCase):
    def test_how_many_there_are(self):
        self.assertEqual(run(mark(), mark(), back(), mark(), mark()), [[1], [2], [0], [2], [3]])

    def test_16_and_17(self):
        given = run(*([mark()] * 18 + [back(), mark(), mark(), back(), back(), mark(), mark(), mark()]))
        self.assertEqual(given, [[place + 1] for place in range(16)] + [[-8], [-8], [0], [16], [-8], [0], [0], [15], [16],
                                                                        [-8]])

    def test_a_refused_mark_leaves_the_last_one(self):
        given = run(*([mark()] * 15 + [read("a"), mark(), read("b"), mark(), back(), size(0), size(1), back(), size(0)]))
        self.assertEqual(given[15:], [[0, 0], [16], [1, 1], [-8], [1], [1], [-3], [0], [-3]])

    def test_16_marks_of_16_graphs(self):
        calls = []
        for place in range(16):
            calls += [mark(), read("a")]
        given = run(*(calls + [mark()] + [back()] * 17))
        self.assertEqual(given[32:], [[-8]] + [[15 - place] for place in range(16)] + [[-5]])

    def test_nothing_changes(self):
        told = look_at(7)
        self.assertEqual(run(*(START + [mark()] + told))[4:], run(*(START + told))[3:])


class Back(unittest.TestCase):
    def test_no_mark(self):
        self.assertEqual(run(back(), mark(), back(), back(), read("a"), back(), size(0)),
                         [[-5], [1], [0], [-5], [0, 0], [-5], [1]])

    def test_after_changes(self):
        told = look_at(7)
        plain = run(*(START + told))[3:]
        for changes in CHANGES:
            given = run(*(START + [mark()] + changes + [back()] + told))
            self.assertEqual(given[4 + len(changes):], [[7]] + plain, changes)
            self.assertTrue(all(answer[0] >= 0 for answer in given[:5 + len(changes)]), changes)

    def test_nodes_that_came_later_are_no_nodes_any_more(self):
        for change in [read("(F b)"), copy(1)]:
            calls = [call for number in [2, 3] for call in
                     [size(number), opens(number), type_of(number), copy(number), copy(1, [number]), unify(0, number),
                      meets(number, 0), same(number, 1), becomes(0, number)]]
            given = run(read("(F a)"), mark(), change, size(3), back(), *calls)
            self.assertEqual(given[3:], [[2], [2]] + [[-3]] * len(calls))

    def test_later_nodes_take_the_same_numbers(self):
        given = run(read("(F a)"), mark(), read("A"), unify(0, 2), back(), read("b"), type_of(1), unify(2, 0), copy(1),
                    type_of(4))
        self.assertEqual(given[4:], [[2], [2, 2], written(2, "(F v0)"), [1], [4], written(2, "(F v3)")])

    def test_the_room_is_there_again(self):
        full = read("(F" + " A" * 96 + ")")
        given = run(read("a"), mark(), full, read("(G a b)"), back(), full, read("b"), read("c"), read("d"))
        self.assertEqual(given[2:], [[97], [-8], [1], [97], [98, 98], [99, 99], [-8]])

    def test_what_was_made_one_is_apart_again(self):
        given = run(read("a"), read("b"), read("A"), mark(), unify(0, 1), unify(1, 2), same(0, 2), back(), same(0, 1),
                    opens(0), opens(1), meets(0, 2), unify(1, 2), opens(0), unify(0, 1))
        self.assertEqual(given[4:], [[1], [1], [1], [3], [0], [1, 0], [1, 1], [1], [1], [1, 0], [1]])

    def test_what_was_made_one_before_the_mark_stays_one(self):
        given = run(read("a"), read("b"), unify(0, 1), mark(), read("A"), unify(1, 2), back(), same(0, 1), opens(1))
        self.assertEqual(given[6:], [[2], [1], [1, 0]])

    def test_back_to_a_graph_without_nodes(self):
        self.assertEqual(run(mark(), read("(F a)"), back(), size(0), read("A")), [[1], [1, 0], [0], [-3], [0]])


class Many(unittest.TestCase):
    def test_marks_within_marks(self):
        given = run(read("(F a)"), mark(), read("A"), mark(), unify(0, 2), type_of(1), back(), type_of(1), size(2),
                    back(), size(2), type_of(1), back())
        self.assertEqual(given[5:], [written(2, "(F A)"), [3], written(2, "(F v0)"), [1], [2], [-3],
                                     written(2, "(F v0)"), [-5]])

    def test_a_second_mark_after_changes_and_two_backs(self):
        told = look_at(7)
        plain = run(*(START + told))[3:]
        for changes in CHANGES:
            given = run(*(START + [mark()] + changes + [mark(), unify(0, 1), back(), back()] + told))
            count = 4 + len(changes)
            self.assertEqual(given[count], [2], changes)
            self.assertEqual(given[count + 3:], [[7]] + plain, changes)

    def test_two_marks_of_one_graph(self):
        given = run(read("a"), read("A"), mark(), mark(), unify(0, 1), back(), opens(0), unify(0, 1), back(), opens(0))
        self.assertEqual(given[2:], [[1], [2], [1], [2], [1, 0], [1], [2], [1, 0]])

    def test_what_is_changed_after_back_does_not_reach_earlier_marks(self):
        given = run(read("(F a b)"), mark(), unify(0, 1), mark(), read("A"), unify(1, 3), back(), type_of(2), read("B"),
                    unify(0, 3), type_of(2), back(), type_of(2), read("C"), type_of(3), type_of(2))
        self.assertEqual(given[6:], [[3], written(3, "(F v0 v0)"), [3], [1], written(3, "(F B B)"), [3],
                                     written(3, "(F v0 v1)"), [3], written(1, "C"), written(3, "(F v0 v1)")])

    def test_the_same_mark_again_and_again(self):
        calls = [read("(F a)"), read("A")] + [mark(), unify(0, 2), copy(1), back()] * 90
        self.assertEqual(run(*calls)[2:], [[1], [1], [1], [3]] * 90)


class Refused(unittest.TestCase):
    def test_after_a_refusal_the_marks_are_as_they_were(self):
        start = [read("(F a b)"), mark(), read("(F A)"), mark(), unify(0, 3)]
        ends = [back(), type_of(2), back(), size(3), back()]
        plain = run(*(start + ends))[5:]
        self.assertEqual(plain, [[5], written(3, "(F v0 v1)"), [3], [-3], [-5]])
        for refused, number in [(read("(c d)"), -1), (read("(F" + " A" * 95 + ")"), -8), (unify(1, 2), -9),
                                (unify(0, 4), -7), (size(5), -3), (copy(1, [9]), -3), (opens(-1), -3),
                                (becomes(0, 5), -3)]:
            self.assertEqual(run(*(start + [refused] + ends))[5:], [[number]] + plain, refused)

    def test_a_refused_copy(self):
        given = run(read("(F a)"), mark(), read("(F" + " A" * 96 + ")"), copy(1), back(), copy(1), back())
        self.assertEqual(given[2:], [[98], [-8], [2], [3], [-5]])

    def test_a_refused_back_changes_nothing(self):
        told = look_at(7)
        self.assertEqual(run(*(START + [back()] + told))[4:], run(*(START + told))[3:])
        self.assertEqual(last(*(START + [back(), mark()])), [1])


if __name__ == "__main__":
    unittest.main()
