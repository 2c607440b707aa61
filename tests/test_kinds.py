"""Points [16] and [17]: rooms of trees, of other graphs, and of points in the plane."""

import unittest
from itertools import combinations
from random import Random

from leavelots.errors import InvalidDrawing
from leavelots.kinds import peeled, taken_down, tree
from leavelots.lots import lots, may, stuck
from leavelots.orders import many
from leavelots.rooms import Room
from tests.values import any_values, is_name, is_sequence, nested, subsets

SEVEN = "abcdefg"


def edges_of(text):
    """`ab bc` for the edges (a, b) and (b, c)."""
    return [tuple(word) for word in text.split()]


def points_at(places, names=SEVEN):
    """Points at these places, the first names for them."""
    return [(name, x, y) for name, (x, y) in zip(names, places)]


def corners(edges):
    return sorted({name for edge in edges for name in edge})


def beside(edges, corner, gone):
    """Those beside a corner who are left."""
    return {name for edge in edges if corner in edge for name in edge} - {corner} - set(gone)


def tree_frees(edges, corner, gone):
    left = {frozenset(edge) for edge in edges if not set(edge) & set(gone)}
    return len([edge for edge in left if corner in edge]) <= 1


def graph_frees(edges, corner, gone):
    joined = {frozenset(edge) for edge in edges}
    return all({one, other} in joined for one, other in combinations(beside(edges, corner, gone), 2))


def point_frees(points, name, gone):
    """Out of the hull is who sees all who are left within less than half a turn: from some first one leftwards."""
    ((x, y),) = [place for other, *place in points if other == name]
    seen = [(s - x, t - y) for other, s, t in points if other != name and other not in gone]

    def is_left_or_behind(first, then):
        cross = first[0] * then[1] - first[1] * then[0]
        return cross > 0 or cross == 0 and first[0] * then[0] + first[1] * then[1] > 0

    return not seen or any(all(is_left_or_behind(first, then) for then in seen) for first in seen)


def is_forest(edges):
    """Whether nothing is left when corners with at most one edge are cut off again and again."""
    left = {frozenset(edge) for edge in edges}
    for _ in corners(edges):
        single = [name for name in corners(left) if sum(name in edge for edge in left) == 1]
        left = {edge for edge in left if not edge & set(single)}
    return not left


def slow_lots(names, frees, drawing):
    found, waiting = {()}, [()]
    while waiting:
        gone = waiting.pop()
        for name in names:
            after = tuple(sorted({*gone, name}))
            if after not in found and frees(drawing, name, gone):
                found.add(after)
                waiting.append(after)
    return tuple(sorted(found))


def random_tree(random, size):
    """A tree or several of them, some edges twice, some turned about."""
    names = random.sample(SEVEN, size)
    edges = [(random.choice(names[:at]), names[at]) for at in range(1, size) if random.random() < 0.9]
    edges += random.choices(edges, k=random.randrange(3)) if edges else []
    edges = [edge[::random.choice((1, -1))] for edge in edges]
    return random.sample(edges, len(edges))


def random_graph(random, size, share):
    edges = [edge for edge in combinations(SEVEN[:size], 2) if random.random() < share]
    edges += random.choices(edges, k=random.randrange(4)) if edges else []
    return [edge[::random.choice((1, -1))] for edge in random.sample(edges, len(edges))]


def trees_to_try():
    random = Random(16)
    texts = ["", "ab", "ba", "ab bc", "ab ab", "ab ba", "ab bc cd de ef fg", "ab ac ad ae af ag", "ab cd",
             "ab cd ef fg", "ga gb bc bd ae af", "ba ab ba bc cb", "ab cd bc ab dc"]
    return [edges_of(text) for text in texts] + [random_tree(random, size) for size in range(2, 8) for _ in range(12)]


def graphs_to_try():
    random = Random(17)
    all_of_four = [list(edges) for edges in subsets(list(combinations("abcd", 2)))]
    texts = ["ab bc ca", "ab bc cd da", "ab bc cd da ac", "ab bc cd de ef fg ga", "ab bc ca ad be cf", "ab ba ac ca bc"]
    drawn = [random_graph(random, size, share / 10) for size in range(5, 8) for share in (3, 5, 7, 9) for _ in range(6)]
    full = [list(combinations(SEVEN, 2)), [(one, other) for one in SEVEN for other in SEVEN if one != other]]
    return trees_to_try() + all_of_four + [edges_of(text) for text in texts] + drawn + full


def random_points(random, size, reach):
    places = [(x, y) for x in range(-reach, reach + 1) for y in range(-reach, reach + 1)]
    return points_at(random.sample(places, size), random.sample(SEVEN, size))


def drawings_to_try():
    """Points on one line, on a bow, in small squares, all over the plane, and around others."""
    random = Random(18)
    steps = (1, 0), (0, 2), (3, -2)
    lines = [[(step * at, rise * at) for at in range(size)] for size in range(8) for step, rise in steps]
    bows = [[(x, x * x) for x in range(-(size // 2), size - size // 2)] for size in range(8)]
    squares = [[(x, y) for x in range(2) for y in range(2)], [(x, y) for x in range(3) for y in range(2)],
               [(0, 0), (2, 0), (0, 2), (2, 2), (1, 1)], [(0, 0), (2, 0), (0, 2), (2, 2), (1, 1), (1, 0), (0, 1)]]
    rounds = [[(0, 0), (2, 0), (1, 2), (-1, 2), (-2, 0), (-1, -2), (1, -2)], [(0, 0), (50, 50), (-50, 50), (0, -50)],
              [(0, 0), (9, 0), (0, 9), (1, 1), (2, 3), (3, 2), (3, 3)], [(0, 0), (-50, -50), (50, 50), (49, 50)]]
    drawn = [random_points(random, size, reach) for size in range(8) for reach in (1, 2, 4, 50) for _ in range(6)]
    return [points_at(places) for places in lines + bows + squares + rounds] + drawn


class Kinds(unittest.TestCase):
    def agree(self, room, names, frees, drawing):
        """That in this room just those may leave whom the words of the document let leave, lot by lot."""
        with self.subTest(drawing):
            self.assertIsInstance(room, Room)
            self.assertEqual(room.names, tuple(names))
            self.assertEqual(lots(room), slow_lots(names, frees, drawing))
            for gone in subsets(names):
                expected = tuple(name for name in names if name not in gone and frees(drawing, name, gone))
                self.assertEqual(may(room, gone), expected, gone)

    def at_of(self, function, drawing):
        """What the error tells; behind it the drawing is as it was."""
        things = list(drawing) if is_sequence(drawing) else []
        with self.assertRaises(InvalidDrawing) as caught:
            function(drawing)
        if is_sequence(drawing):
            self.assertEqual([id(thing) for thing in drawing], [id(thing) for thing in things])
        self.assertIs(type(caught.exception.at), int)
        return caught.exception.at


class Trees(Kinds):
    def test_by_hand(self):
        room = tree([("a", "b"), ("b", "c")])
        self.assertEqual(lots(room), ((), ("a",), ("a", "b"), ("a", "b", "c"), ("a", "c"), ("b", "c"), ("c",)))
        self.assertEqual(many(tree(edges_of("ab ac ad"))), 12)

    def test_against_the_words(self):
        for edges in trees_to_try():
            self.agree(tree(edges), corners(edges), tree_frees, edges)

    def test_no_edges(self):
        for edges in ([], ()):
            self.assertEqual((tree(edges).names, lots(tree(edges))), ((), ((),)))

    def test_edges_that_come_twice_or_turned_about(self):
        expected = lots(tree(edges_of("ab bc bd")))
        for text in ("ab ab bc bd", "ba bc cb bd", "ab bc bd ba cb db ab"):
            self.assertEqual(lots(tree(edges_of(text))), expected)

    def test_all_can_leave(self):
        for edges in trees_to_try():
            self.assertEqual(stuck(tree(edges)), ())

    def test_first_edge_that_closes_a_ring(self):
        for text, at in (("ab bc ca", 2), ("ab bc ba cb ca", 4), ("ab cd ef bc de fa", 5), ("ab bc cd da ac", 3),
                         ("ab ab ba bc ac ca", 4), ("ab bc cd de ef fg ab ga", 7), ("ab cd ac bd ad", 3),
                         ("ab bc ca xy yz zx", 2), ("xy ab bc yz ca zx", 4)):
            with self.subTest(text):
                self.assertEqual(self.at_of(tree, edges_of(text)), at)
                self.assertEqual(self.at_of(tree, tuple(edges_of(text))), at)

    def test_rings_against_cutting_off(self):
        random = Random(3)
        for _ in range(150):
            edges = random_graph(random, random.randint(3, 7), random.random())
            with self.subTest(edges):
                wrong = [at for at in range(len(edges)) if not is_forest(edges[:at + 1])]
                if wrong:
                    self.assertEqual(self.at_of(tree, edges), wrong[0])
                else:
                    self.agree(tree(edges), corners(edges), tree_frees, edges)

    def test_what_is_no_edge_comes_ahead_of_rings(self):
        self.assertEqual(self.at_of(tree, edges_of("ab bc ca") + [None]), 3)
        self.assertEqual(self.at_of(tree, edges_of("ab bc ca ad") + [("a", "a")] + edges_of("db")), 4)


class Graphs(Kinds):
    def test_by_hand(self):
        self.assertEqual(stuck(taken_down(edges_of("ab bc cd da"))), tuple("abcd"))
        self.assertEqual(many(taken_down(edges_of("ab bc ca"))), 6)
        self.assertEqual(may(taken_down(edges_of("ab bc cd da ac")), []), ("b", "d"))
        self.assertEqual(stuck(taken_down(edges_of("ab bc cd da ax"))), tuple("abcd"))

    def test_against_the_words(self):
        for edges in graphs_to_try():
            self.agree(taken_down(edges), corners(edges), graph_frees, edges)

    def test_no_edges(self):
        for edges in ([], ()):
            self.assertEqual((taken_down(edges).names, lots(taken_down(edges))), ((), ((),)))

    def test_edges_that_come_twice_or_turned_about(self):
        expected = lots(taken_down(edges_of("ab bc cd da ac")))
        for text in ("ab ba bc cd da ac", "ab bc cb bc cd ad da ca ac"):
            self.assertEqual(lots(taken_down(edges_of(text))), expected)


class Edges(Kinds):
    def is_edge(self, value):
        return isinstance(value, tuple) and len(value) == 2 and is_name(value[0]) and is_name(value[1]) \
            and value[0] != value[1]

    def wrong_things(self):
        """Lists and triples among them, and pairs of what is no name or of one name alone."""
        near = [["a", "b"], ("a",), ("a", "b", "c"), ("a", "a"), ("a", "if"), ("A", "b"), ("a", ""), ("a", 1),
                ("a", None), (("a",), "b"), ("a", ["b"]), "ab", ("abcd", "a"), ("a", True), (["a"], ["b"])]
        return near + [value for value in any_values() if not self.is_edge(value)]

    def test_any_value(self):
        for function in (tree, taken_down):
            for value in any_values() + [nested(("a", "b"), deep) for deep in range(1, 8)]:
                with self.subTest(function.__name__, value=repr(value)):
                    if not is_sequence(value):
                        self.assertEqual(self.at_of(function, value), 0)
                    elif all(self.is_edge(thing) for thing in value):
                        self.agree(function(value), corners(value), graph_frees, value)
                    else:
                        first = [self.is_edge(thing) for thing in value].index(False)
                        self.assertEqual(self.at_of(function, value), first)

    def test_index_of_the_first_that_is_no_edge(self):
        for function in (tree, taken_down):
            for value in self.wrong_things():
                with self.subTest(function.__name__, value=repr(value)):
                    self.assertEqual(self.at_of(function, [value]), 0)
                    self.assertEqual(self.at_of(function, [("a", "b"), ("b", "a"), value, None]), 2)
                    self.assertEqual(self.at_of(function, (("a", "b"), value)), 1)

    def test_arguments(self):
        for function in (tree, taken_down):
            edges = edges_of("ab cb bd")
            room = function(edges=edges)
            text = str(room)
            self.assertEqual(edges, edges_of("ab cb bd"))
            edges.append(("d", "x"))
            edges[0] = None
            self.assertEqual(str(room), text)
            self.assertEqual(function(tuple(edges_of("ab cb bd"))), room)
            self.assertEqual(function(edges_of("ab cb bd")), room)

    def test_long_names(self):
        for function in (tree, taken_down):
            self.assertEqual(function([("zz", "abc"), ("fi", "zz")]).names, ("abc", "fi", "zz"))


class Points(Kinds):
    def test_by_hand(self):
        room = peeled([("a", 0, 0), ("b", 4, 0), ("c", 0, 4), ("m", 1, 1)])
        self.assertEqual((may(room, []), may(room, ["a"])), (("a", "b", "c"), ("b", "c", "m")))
        self.assertEqual(many(peeled([("a", 0, 0), ("b", 1, 0), ("c", 2, 0)])), 4)
        self.assertEqual(may(peeled([("a", 0, 0), ("b", 4, 0), ("c", 0, 4), ("m", 2, 2)]), []), ("a", "b", "c"))
        self.assertEqual(may(peeled([("a", 0, 0), ("b", 4, 0), ("c", 8, 0), ("d", 9, 0)]), ["a"]), ("b", "d"))
        self.assertEqual(may(peeled([("a", 0, 0), ("b", 1, 0), ("c", -1, 0), ("d", 0, 1)]), ["b"]), ("a", "c", "d"))

    def test_against_the_words(self):
        for points in drawings_to_try():
            self.agree(peeled(points), sorted(point[0] for point in points), point_frees, points)

    def test_all_can_leave(self):
        for points in drawings_to_try():
            self.assertEqual(stuck(peeled(points)), ())

    def test_no_points_and_few(self):
        for points in ([], ()):
            self.assertEqual((peeled(points).names, lots(peeled(points))), ((), ((),)))
        self.assertEqual(lots(peeled([("zz", 50, -50)])), ((), ("zz",)))
        self.assertEqual(many(peeled([("a", 0, 0), ("b", 0, 1)])), 2)

    def test_on_one_line_only_the_ends_may_leave(self):
        points = [("d", 3, 6), ("a", 0, 0), ("c", 2, 4), ("b", 1, 2), ("e", 4, 8)]
        self.assertEqual(may(peeled(points), []), ("a", "e"))
        self.assertEqual(many(peeled(points)), 16)

    def test_on_a_bow_all_may_leave(self):
        self.assertEqual(many(peeled(points_at([(x, x * x) for x in range(7)]))), 5040)

    def is_point(self, value):
        return isinstance(value, tuple) and len(value) == 3 and is_name(value[0]) \
            and not any(isinstance(number, bool) or not isinstance(number, int) for number in value[1:])

    def wrong_things(self):
        near = [["z", 9, 9], ("z", 9), ("z",), ("z", 9, 9, 9), ("if", 9, 9), ("Z", 9, 9), ("", 9, 9), ("zzzz", 9, 9),
                (9, 9, "z"), ("z", True, 9), ("z", 9, False), ("z", None, 9), ("z", "9", 9), ("z", 9, [9]), "zab",
                ("z", (9, 9)), (("z",), 9, 9), (None, 9, 9), ("z", Room(), 9)]
        alike = [("a", 9, 9), ("b", 5, 1), ("z", 0, 0), ("z", 1, 0), ("a", 0, 0), ("a", 1, 0)]
        return near + alike + [value for value in any_values() if not self.is_point(value)]

    def test_any_value(self):
        deep = [nested(("a", 0, 0), times) for times in range(2, 8)]
        for value in any_values() + deep + [("a", 0, 0)]:
            with self.subTest(repr(value)):
                if not is_sequence(value):
                    self.assertEqual(self.at_of(peeled, value), 0)
                elif not value:
                    self.assertEqual(peeled(value).names, ())
                else:
                    self.assertEqual(self.at_of(peeled, value), 0)

    def test_index_of_the_first_that_is_wrong(self):
        ahead = [("a", 0, 0), ("b", 1, 0)]
        for value in self.wrong_things():
            with self.subTest(repr(value)):
                self.assertEqual(self.at_of(peeled, [*ahead, value]), 2)
                self.assertEqual(self.at_of(peeled, (*ahead, ("c", 2, 0), value, None, ("a", 0, 0))), 3)
                if not self.is_point(value):
                    self.assertEqual(self.at_of(peeled, [value, ("a", 0, 0), ("a", 0, 0)]), 0)

    def test_names_and_places_alike(self):
        self.assertEqual(self.at_of(peeled, [("a", 0, 0), ("a", 1, 0)]), 1)
        self.assertEqual(self.at_of(peeled, [("a", 3, -4), ("b", 3, 4), ("c", 3, -4)]), 2)
        self.assertEqual(self.at_of(peeled, [("a", 0, 1), ("b", 1, 0), ("c", 1, 1), ("b", 2, 2), ("d", 1, 1)]), 3)
        self.assertEqual(peeled([("a", 0, 1), ("b", 1, 0), ("c", 1, 1), ("d", 0, 0)]).names, tuple("abcd"))

    def test_arguments(self):
        given = points_at([(0, 0), (4, 0), (0, 4), (1, 1)])
        points = list(given)
        room = peeled(points=points)
        text = str(room)
        self.assertEqual(points, given)
        points[3] = ("d", 9, 9)
        points.append(None)
        self.assertEqual(str(room), text)
        self.assertEqual(peeled(tuple(given)), room)
        self.assertEqual(peeled(given), room)

    def test_far_away(self):
        points = [("a", -50, -50), ("b", 50, 49), ("c", 49, 50), ("d", 0, 0), ("e", 0, -1), ("f", 50, 50)]
        self.agree(peeled(points), list("abcdef"), point_frees, points)


if __name__ == "__main__":
    unittest.main()
