"""[37] nodes and ways, [38] cut stretches, [39] gaps and places of anchors."""

import unittest

from deedstand.cutstretches import cut_signs, joined_cuts
from deedstand.errors import BadPlace
from deedstand.gapplaces import anchor_at, anchor_place, gap_of
from deedstand.nodeways import children_of, parent_of, path_of, replayed, road_between, stand_at
from deedstand.settledrows import is_settled, row_of
from tests.ways import (
    AB, AB_CUTS, END, HEAD, all_signs, chain_births, closed, drawn_births, drawn_cuts, drawn_round, plain_spliced,
    plain_stretches, rng_for,
)

NODES = (
    ("root",),
    ("edit", 0, (((0, 0, "ab"),),)),
    ("edit", 1, (((1, 1, ""),), ((0, 0, "x"), (1, 0, "y")))),
    ("turn", 2, (1, 2)),
    ("edit", 1, (((2, 0, "z"),),)),
    ("turn", 4, (2,)),
    ("turn", 5, (2, 4)),
    ("edit", 6, (((0, 0, "q"),),)),
    ("edit", 0, (((0, 0, "\n"),),)),
)


def drawn_nodes(rng, many):
    """Nodes, each on any elder one; the texts of paths without turns are kept beside them."""
    nodes, texts = [("root",)], [""]
    for node in range(1, many):
        parent = rng.choice((node - 1, rng.randrange(node)))
        edits = [k for k in range(1, node) if nodes[k][0] == "edit"]
        if edits and rng.random() < 0.25:
            nodes.append(("turn", parent, tuple(sorted(rng.sample(edits, rng.randint(1, min(3, len(edits))))))))
            texts.append(None)
            continue
        text = texts[parent]
        rounds = []
        for _ in range(rng.randint(1, 3)):
            rounds.append(drawn_round(rng, len(text or "")))
            text = plain_spliced(text or "", rounds[-1])
        nodes.append(("edit", parent, tuple(rounds)))
        texts.append(None if texts[parent] is None else text)
    return tuple(nodes), texts


class TestNodeways(unittest.TestCase):

    def test_by_hand(self):
        self.assertEqual([parent_of(NODES, node) for node in range(9)], [None, 0, 1, 2, 1, 4, 5, 6, 0])
        self.assertEqual([children_of(NODES, node) for node in range(9)],
                         [(1, 8), (2, 4), (3,), (), (5,), (6,), (7,), (), ()])
        self.assertEqual(path_of(NODES, 7), (0, 1, 4, 5, 6, 7))
        self.assertEqual([stand_at(NODES, node) for node in range(9)],
                         [0, 2, 6, 0, 18, 22, 2, 130, 256])
        self.assertEqual(road_between(NODES, 3, 5), (("up", 3), ("up", 2), ("down", 4), ("down", 5)))
        self.assertEqual(road_between(NODES, 5, 1), (("up", 5), ("up", 4)))
        self.assertEqual(road_between(NODES, 0, 2), (("down", 1), ("down", 2)))
        self.assertEqual([replayed(NODES, node) for node in range(9)],
                         ["", "ab", "xay", None, "abz", None, None, None, "\n"])

    def test_by_name(self):
        self.assertIsNone(parent_of(nodes=NODES, node=0))
        self.assertEqual(children_of(nodes=NODES, node=1), (2, 4))
        self.assertEqual(path_of(nodes=NODES, node=0), (0,))
        self.assertEqual(stand_at(nodes=NODES, node=0), 0)
        self.assertEqual(road_between(nodes=NODES, one=8, other=1), (("up", 8), ("down", 1)))
        self.assertEqual(replayed(nodes=NODES, node=2), "xay")
        self.assertEqual((path_of((("root",),), 0), children_of((("root",),), 0)), ((0,), ()))

    def test_drawn(self):
        rng = rng_for("nodes")
        for _ in range(60):
            nodes, texts = drawn_nodes(rng, rng.randint(1, 12))
            for node in range(len(nodes)):
                path = path_of(nodes, node)
                self.assertIs(type(path), tuple)
                self.assertEqual((path[0], path[-1]), (0, node))
                for parent, child in zip(path, path[1:]):
                    self.assertEqual(parent_of(nodes, child), parent)
                    self.assertIn(child, children_of(nodes, parent))
                turns = {}
                for step in path[1:]:
                    for deed in ((step,) if nodes[step][0] == "edit" else nodes[step][2]):
                        turns[deed] = turns.get(deed, 0) + 1
                self.assertEqual(stand_at(nodes, node), sum(1 << deed for deed in turns if turns[deed] % 2))
                self.assertEqual(replayed(nodes, node), texts[node])
                for other in range(len(nodes)):
                    self.check_road(nodes, node, other)
            children = [child for node in range(len(nodes)) for child in children_of(nodes, node)]
            self.assertEqual(sorted(children), list(range(1, len(nodes))))

    def check_road(self, nodes, one, other):
        road = road_between(nodes, one, other)
        self.assertIs(type(road), tuple)
        here = one
        passed = [one]
        for word, node in road:
            if word == "up":
                self.assertEqual(here, node)
                here = parent_of(nodes, here)
            else:
                self.assertEqual((word, parent_of(nodes, node)), ("down", here))
                here = node
            passed.append(here)
        self.assertEqual(here, other)
        self.assertEqual(len(set(passed)), len(passed))

    def test_longest(self):
        nodes = (("root",),) + tuple(("edit", k, (((k, 0, "a"),),)) for k in range(299))
        self.assertEqual(path_of(nodes, 299), tuple(range(300)))
        self.assertEqual(stand_at(nodes, 299), 2 ** 300 - 2)
        self.assertEqual(replayed(nodes, 299), "a" * 299)
        self.assertEqual(len(road_between(nodes, 299, 0)), 299)


class TestStretches(unittest.TestCase):

    def test_by_hand(self):
        self.assertEqual(joined_cuts(((2, 0, 1), (1, 3, 2), (1, 0, 3), (1, 6, 1))), ((1, 0, 5), (1, 6, 1), (2, 0, 1)))
        self.assertEqual(joined_cuts(((1, 0, 9), (1, 2, 3), (1, 4, 2))), ((1, 0, 9),))
        self.assertEqual(joined_cuts(stretches=()), ())
        self.assertEqual(cut_signs(stretches=((1, 1, 1), (1, 0, 2))), ((1, 0), (1, 1)))
        self.assertEqual(joined_cuts(((1, 1, 1), (2, 2, 1), (1, 2, 1))), ((1, 1, 2), (2, 2, 1)))
        self.assertEqual(cut_signs(()), ())

    def test_drawn(self):
        rng = rng_for("stretches")
        for _ in range(800):
            stretches = tuple((rng.randint(1, 3), rng.randint(0, 8), rng.randint(1, 4))
                              for _ in range(rng.randint(0, 6)))
            signs = {(chunk, start + k) for chunk, start, many in stretches for k in range(many)}
            got = joined_cuts(stretches)
            self.assertEqual(got, plain_stretches(signs))
            self.assertTrue(type(got) is tuple and all(type(stretch) is tuple for stretch in got))
            self.assertEqual(cut_signs(stretches), tuple(sorted(signs)))
            self.assertEqual(joined_cuts(got), got)


class TestGaps(unittest.TestCase):

    def test_hidden_b(self):
        row = row_of(AB, AB_CUTS, 14)
        self.assertEqual(gap_of(AB, row, (1, 1)), (1, 2))
        self.assertEqual([anchor_place(AB, row, (1, 1, side)) for side in (0, 1)], [1, 2])

    def test_ends(self):
        row = ((1, 0), (2, 0))
        self.assertEqual([gap_of(AB, row, HEAD), gap_of(AB, row, END)], [(0, 0), (2, 2)])
        anchors = (HEAD + (0,), HEAD + (1,), END + (0,), END + (1,))
        self.assertEqual([anchor_place(AB, row, anchor) for anchor in anchors], [0, 0, 2, 2])
        self.assertEqual([anchor_place(AB, (), anchor) for anchor in anchors], [0, 0, 0, 0])
        self.assertEqual(gap_of(births=AB, row=(), sign=(1, 0)), (0, 0))
        self.assertEqual([anchor_at(row, place, 0) for place in range(3)], [(0, 0, 0), (1, 0, 0), (2, 0, 0)])
        self.assertEqual([anchor_at(row, place, 1) for place in range(3)], [(1, 0, 1), (2, 0, 1), (0, 1, 1)])
        self.assertEqual([anchor_at((), 0, side) for side in (0, 1)], [(0, 0, 0), (0, 1, 1)])
        for row in ((), row):
            for side in (0, 1):
                with self.assertRaises(BadPlace) as caught:
                    anchor_at(row=row, place=len(row) + 1, side=side)
                self.assertEqual(caught.exception.at, len(row) + 1)

    def test_as_told(self):
        rng = rng_for("gaps")
        wide = 0
        for _ in range(300):
            births = drawn_births(rng, rng.randint(0, 6))
            cuts = drawn_cuts(rng, births)
            told = closed(births)
            for stand in (0, 2, 6, 14):
                if is_settled(births, cuts, stand):
                    wide += self.check_row(births, told, row_of(births, cuts, stand))
        self.assertGreater(wide, 100)

    def check_row(self, births, told, row):
        many = len(row)
        wide = 0
        for sign in all_signs(births):
            low = sum((x, sign) in told for x in row)
            high = many - sum((sign, x) in told for x in row)
            got = gap_of(births, row, sign)
            self.assertEqual(got, (low, high))
            self.assertIs(type(got), tuple)
            wide += high - low > 1
            low = sum((x, sign) in told or x == sign for x in row)
            high = many - sum((sign, x) in told or x == sign for x in row)
            self.assertEqual(anchor_place(births, row, sign + (0,)), low)
            self.assertEqual(anchor_place(births=births, row=row, anchor=sign + (1,)), high)
        for place in range(many + 1):
            for side in (0, 1):
                anchor = anchor_at(row, place, side)
                self.assertEqual(anchor_place(births, row, anchor), place)
                self.assertEqual(anchor[2], side)
        return wide

    def test_longest(self):
        births = chain_births(200)
        row = row_of(births, {}, 2)
        self.assertEqual(gap_of(births, row, (200, 0)), (199, 200))
        self.assertEqual(anchor_place(births, row[:150], (200, 1, 1)), 150)
        births = ((0, HEAD, END, ""), (1, HEAD, END, "x" * 4000), (2, (1, 9), (1, 10), "y"))
        row = row_of(births, {}, 2)
        self.assertEqual(gap_of(births, row, (2, 0)), (10, 10))
        self.assertEqual(anchor_at(row, 4000, 1), (0, 1, 1))


if __name__ == "__main__":
    unittest.main()
