"""[29] to [34]: trees of pieces."""

import itertools
import unittest

from deedstand.errors import BadPlace
from deedstand.restanding import restood
from deedstand.treecuts import cut_by, cut_shown, laid_in
from deedstand.treefinds import feed_place, feeds_ahead, shown_ahead, sign_shown
from deedstand.treejoins import built, first_taken, joined_by, joined_two
from deedstand.treenodes import feeds_of, height_of, mask_of, node_of, shown_of, signs_in
from deedstand.treereading import is_sound, pieces_of, signs_of, text_between, tidied
from tests.ways import AB, END, HEAD, plain_stretches, rng_for


def flat(tree):
    """All signs of a tree, in sequence: (sign, cutters, on)."""
    if tree is None:
        return []
    chunk, start, many, cutters, on = tree[1]
    own = [((chunk, index), cutters, on) for index in range(start, start + many)]
    return flat(tree[0]) + own + flat(tree[2])


def letter(births, sign):
    return births[sign[0]][3][sign[1]]


def five(tree, births):
    """The five numbers of a node, reckoned from all its signs."""
    if tree is None:
        return (0, 0, 0, 0, 0)
    signs = flat(tree)
    shown = [letter(births, sign) for sign, _, on in signs if on]
    mask = 0
    for sign, cutters, _ in signs:
        mask |= 1 << births[sign[0]][0] | cutters
    height = 1 + max(five(tree[0], births)[0], five(tree[2], births)[0])
    return (height, len(shown), shown.count("\n"), len(signs), mask)


def nodes_in(tree):
    if tree is not None:
        yield tree
        yield from nodes_in(tree[0])
        yield from nodes_in(tree[2])


def plain_sound(tree, births, stand):
    """[29], word by word; exactly of the form that it tells."""
    signs = []
    for node in nodes_in(tree):
        if any(type(number) is not int for number in node[3:] + node[1][:4]) or type(node[1][4]) is not bool:
            return False
        chunk, start, many, cutters, on = node[1]
        if not 1 <= chunk < len(births) or many < 1 or start + many > len(births[chunk][3]):
            return False
        if on != bool(stand >> births[chunk][0] & 1 and not cutters & stand):
            return False
        signs += [(chunk, index) for index in range(start, start + many)]
    for node in nodes_in(tree):
        if type(node) is not tuple or type(node[1]) is not tuple or node[3:] != five(node, births):
            return False
        if abs(five(node[0], births)[0] - five(node[2], births)[0]) > 1:
            return False
    return len(set(signs)) == len(signs)


def drawn_shape(rng, height):
    """Any shape of this height in which the heights of subtrees differ by at most 1."""
    if height <= 0:
        return None
    low, high = rng.choice(((1, 1), (1, 2), (2, 1)))
    return (drawn_shape(rng, height - low), drawn_shape(rng, height - high))


def shape_size(shape):
    return 0 if shape is None else 1 + shape_size(shape[0]) + shape_size(shape[1])


def filled(shape, pieces, births):
    """The tree of this shape that takes its pieces from the begin of a list."""
    if shape is None:
        return None
    left = filled(shape[0], pieces, births)
    piece = pieces.pop(0)
    right = filled(shape[1], pieces, births)
    parts = (left, piece, right)
    return parts + five(parts + (0, 0, 0, 0, 0), births)


def drawn_pieces(rng, many, stand, shuffled=True):
    """Births and so many pieces that are sound for the stand; in any sequence, or one chunk by the other."""
    births = ((0, HEAD, END, ""),)
    pieces = []
    while len(pieces) < many:
        chunk, maker, text = len(births), rng.randint(1, 6), ""
        for _ in range(min(rng.randint(1, 4), many - len(pieces))):
            size = rng.randint(1, 3)
            cutters = sum(1 << deed for deed in range(1, 7) if rng.random() < 0.15)
            on = bool(stand >> maker & 1 and not cutters & stand)
            pieces.append((chunk, len(text), size, cutters, on))
            text += "".join(rng.choice("abc\n\n") for _ in range(size))
        births += ((maker, HEAD, END, text),)
    if shuffled:
        rng.shuffle(pieces)
    return births, pieces


def drawn_tree(rng, height, shuffled=True, stand=None):
    """Births, a stand, and any tree that is sound for them."""
    stand = rng.choice((126, 126, 62, 0, rng.randrange(128))) if stand is None else stand
    shape = drawn_shape(rng, height)
    births, pieces = drawn_pieces(rng, shape_size(shape), stand, shuffled)
    return births, stand, filled(shape, pieces, births)


def drawn_trees(name, many, height=5, shuffled=True):
    rng = rng_for(name)
    for _ in range(many):
        yield (rng,) + drawn_tree(rng, rng.randint(0, height), shuffled)


class TestNodes(unittest.TestCase):

    def test_drawn_trees_are_sound(self):
        heights = set()
        for _, births, stand, tree in drawn_trees("sound", 60, height=6):
            self.assertTrue(plain_sound(tree, births, stand))
            heights.add(height_of(tree))
        self.assertTrue(len(heights) > 4)

    def test_the_five(self):
        for _, births, _, tree in drawn_trees("five", 60):
            got = (height_of(tree), shown_of(tree), feeds_of(tree), signs_in(tree), mask_of(tree))
            self.assertEqual(got, five(tree, births))
            for node in nodes_in(tree):
                self.assertEqual(node_of(node[0], node[1], node[2], births), node)
        for call in (height_of, shown_of, feeds_of, signs_in, mask_of):
            self.assertEqual(call(tree=None), 0)

    def test_whatever_their_heights(self):
        rng = rng_for("chain")
        births, pieces = drawn_pieces(rng, 40, 126)
        tree = None
        for piece in pieces:
            tree = node_of(left=tree, piece=piece, right=None, births=births)
            self.assertIs(type(tree), tuple)
            self.assertEqual(tree[3:], five(tree, births))
        self.assertEqual(height_of(tree), 40)
        tree = node_of(None, (1, 0, 1, 4, False), None, AB)
        self.assertEqual(tree, (None, (1, 0, 1, 4, False), None, 1, 0, 0, 1, 6))


class TestJoins(unittest.TestCase):

    def test_example(self):
        tree = built(((1, 0, 1, 0, True), (2, 0, 1, 0, True), (1, 1, 1, 4, False)), AB)
        self.assertEqual(tree[1:2] + tree[3:], ((2, 0, 1, 0, True), 2, 2, 0, 3, 14))

    def split_trees(self, rng, low, high):
        """Two sound trees of these heights and a piece, without a common sign."""
        stand = rng.randrange(128)
        shapes = (drawn_shape(rng, low), drawn_shape(rng, high))
        births, pieces = drawn_pieces(rng, shape_size(shapes[0]) + shape_size(shapes[1]) + 1, stand)
        left = filled(shapes[0], pieces, births)
        piece = pieces.pop(0)
        return births, stand, left, piece, filled(shapes[1], pieces, births)

    def test_joined_by(self):
        rng = rng_for("joined by")
        grown = set()
        for low, high in itertools.product(range(7), repeat=2):
            for _ in range(6):
                births, stand, left, piece, right = self.split_trees(rng, low, high)
                tree = joined_by(left, piece, right, births)
                self.assertTrue(plain_sound(tree, births, stand))
                self.assertEqual(flat(tree), flat(left) + flat((None, piece, None)) + flat(right))
                higher = max(height_of(left), height_of(right))
                self.assertIn(height_of(tree) - higher, (0, 1))
                grown.add(height_of(tree) - higher)
        self.assertEqual(grown, {0, 1})

    def test_joined_two(self):
        rng = rng_for("joined two")
        for low, high in itertools.product(range(7), repeat=2):
            for _ in range(4):
                births, stand, left, _, right = self.split_trees(rng, low, high)
                tree = joined_two(left, right, births)
                self.assertTrue(plain_sound(tree, births, stand))
                self.assertEqual(flat(tree), flat(left) + flat(right))
        self.assertIsNone(joined_two(left=None, right=None, births=AB))

    def test_first_taken(self):
        for _, births, stand, tree in drawn_trees("first", 80, height=6):
            if tree is None:
                continue
            got = first_taken(tree, births)
            self.assertIs(type(got), tuple)
            piece, rest = got
            self.assertEqual(piece, list(pieces_of(tree))[0])
            self.assertTrue(plain_sound(rest, births, stand))
            self.assertEqual(flat((None, piece, None)) + flat(rest), flat(tree))
        tree = node_of(None, (1, 0, 2, 0, True), None, AB)
        self.assertEqual(first_taken(tree=tree, births=AB), ((1, 0, 2, 0, True), None))

    def test_all_taken_one_by_one(self):
        rng = rng_for("taken")
        births, stand, tree = drawn_tree(rng, 7)
        pieces = list(pieces_of(tree))
        taken = []
        while tree is not None:
            piece, tree = first_taken(tree, births)
            self.assertTrue(plain_sound(tree, births, stand))
            taken.append(piece)
        self.assertEqual(taken, pieces)

    def test_built(self):
        rng = rng_for("built")
        for many in list(range(20)) + [31, 32, 63, 64, 100]:
            stand = rng.randrange(128)
            births, pieces = drawn_pieces(rng, many, stand)
            tree = built(pieces=tuple(pieces), births=births)
            self.assertTrue(plain_sound(tree, births, stand))
            self.assertEqual(list(pieces_of(tree)), pieces)
            self.assertEqual(height_of(tree), many.bit_length())
        self.assertIsNone(built((), AB))


class TestCuts(unittest.TestCase):

    def test_cut_shown(self):
        for _, births, stand, tree in drawn_trees("cut shown", 60):
            signs = flat(tree)
            for place in range(shown_of(tree) + 1):
                got = cut_shown(tree, births, place)
                self.assertIs(type(got), tuple)
                left, right = got
                self.assertTrue(plain_sound(left, births, stand))
                self.assertTrue(plain_sound(right, births, stand))
                self.assertEqual(flat(left) + flat(right), signs)
                self.assertEqual(shown_of(left), place)
                if place == 0:
                    self.assertIsNone(left)
                else:
                    self.assertTrue(flat(left)[-1][2])
            with self.assertRaises(BadPlace) as caught:
                cut_shown(tree=tree, births=births, place=shown_of(tree) + 1)
            self.assertEqual(caught.exception.at, shown_of(tree) + 1)
        self.assertEqual(cut_shown(None, AB, 0), (None, None))

    def test_cut_by(self):
        for rng, births, stand, tree in drawn_trees("cut by", 30, height=4):
            standing = [deed for deed in range(1, 7) if stand >> deed & 1]
            for deed in [7, 299] + standing[:2]:
                for place in range(shown_of(tree) + 1):
                    for many in {0, 1, 2, 5, shown_of(tree) - place}:
                        if place + many <= shown_of(tree):
                            self.check_cut(births, stand, tree, deed, place, many)

    def check_cut(self, births, stand, tree, deed, place, many):
        got = cut_by(tree, births, deed, place, many)
        self.assertIs(type(got), tuple)
        after, stretches = got
        self.assertTrue(plain_sound(after, births, stand | 1 << deed))
        expected, cut, at = [], [], 0
        for sign, cutters, on in flat(tree):
            if on and place <= at < place + many:
                cut.append(sign)
                expected.append((sign, cutters | 1 << deed, False))
            else:
                expected.append((sign, cutters, on))
            at += on
        self.assertEqual(flat(after), expected)
        self.assertEqual(stretches, plain_stretches(cut))
        self.assertIs(type(stretches), tuple)

    def test_cut_by_beyond(self):
        births, stand, tree = drawn_tree(rng_for("beyond"), 4, stand=126)
        size = shown_of(tree)
        for place, many, wrong in ((size, 1, size + 1), (0, size + 1, size + 1), (size - 1, 5, size + 4),
                                   (size + 1, 0, size + 1), (size + 2, 3, size + 2)):
            with self.assertRaises(BadPlace) as caught:
                cut_by(tree=tree, births=births, deed=7, place=place, many=many)
            self.assertEqual(caught.exception.at, wrong)
        with self.assertRaises(BadPlace) as caught:
            cut_by(None, births, 7, 0, 1)
        self.assertEqual(caught.exception.at, 1)
        self.assertEqual(cut_by(None, births, 7, 0, 0), (None, ()))

    def test_laid_in(self):
        for rng, births, stand, tree in drawn_trees("laid in", 60, height=4):
            chunk = len(births)
            maker = rng.choice((7, 299))
            births += ((maker, HEAD, END, "p\nq"[:rng.randint(1, 3)]),)
            put = [((chunk, index), 0, True) for index in range(len(births[chunk][3]))]
            signs = flat(tree)
            for place in range(shown_of(tree) + 1):
                begin = [at for at in range(len(signs) + 1) if sum(on for _, _, on in signs[:at]) == place]
                first = begin[0]
                gap = len(begin) - 1
                for choice in (0, -1, 1, 2, gap, gap + 1, -gap, -gap - 1, 10 ** 9, -10 ** 9):
                    after = laid_in(tree, births, place, chunk, choice=choice)
                    self.assertTrue(plain_sound(after, births, stand | 1 << maker))
                    at = first + choice % (gap + 1)
                    self.assertEqual(flat(after), signs[:at] + put + signs[at:])
                self.assertEqual(laid_in(tree, births, place, chunk), laid_in(tree, births, place, chunk, choice=0))
            with self.assertRaises(BadPlace) as caught:
                laid_in(tree=tree, births=births, place=shown_of(tree) + 1, chunk=chunk, choice=1)
            self.assertEqual(caught.exception.at, shown_of(tree) + 1)

    def test_choice_by_name_alone(self):
        with self.assertRaises(TypeError):
            laid_in(None, AB, 0, 1, 0)


class TestFinds(unittest.TestCase):

    def refused(self, wrong, call, *args):
        with self.assertRaises(BadPlace) as caught:
            call(*args)
        self.assertEqual(caught.exception.at, wrong)

    def test_signs_and_feeds(self):
        for _, births, _, tree in drawn_trees("finds", 80):
            shown = [sign for sign, _, on in flat(tree) if on]
            feeds = [at for at, sign in enumerate(shown) if letter(births, sign) == "\n"]
            self.assertEqual([sign_shown(tree, place) for place in range(len(shown))], shown)
            self.assertEqual([feed_place(tree, births, many) for many in range(len(feeds))], feeds)
            for place in range(len(shown) + 1):
                self.assertEqual(feeds_ahead(tree, births, place), sum(at < place for at in feeds))
            for more in (0, 1, 10 ** 9):
                self.refused(len(shown) + more, sign_shown, tree, len(shown) + more)
                self.refused(len(feeds) + more, feed_place, tree, births, len(feeds) + more)
                self.refused(len(shown) + 1 + more, feeds_ahead, tree, births, len(shown) + 1 + more)

    def test_shown_ahead(self):
        for _, births, _, tree in drawn_trees("ahead", 60):
            ahead = 0
            for sign, _, on in flat(tree):
                got = shown_ahead(tree, births, sign)
                self.assertEqual(got, (ahead, on))
                self.assertTrue(type(got) is tuple and got[1] is on)
                ahead += on

    def test_by_name(self):
        tree = built(((1, 0, 1, 0, True), (2, 0, 1, 0, True), (1, 1, 1, 4, False)), AB)
        self.assertEqual(sign_shown(tree=tree, place=1), (2, 0))
        self.assertEqual(feeds_ahead(tree=tree, births=AB, place=2), 0)
        self.assertEqual(shown_ahead(tree=tree, births=AB, sign=(1, 1)), (2, False))
        self.refused(0, feed_place, tree, AB, 0)
        self.refused(0, sign_shown, None, 0)
        self.assertEqual(feeds_ahead(None, AB, 0), 0)
        self.assertEqual(feed_place(tree=node_of(None, (1, 0, 1, 0, True), None, ((0, HEAD, END, ""),
                                                                                  (1, HEAD, END, "\n"))),
                                    births=((0, HEAD, END, ""), (1, HEAD, END, "\n")), many=0), 0)


class TestRestood(unittest.TestCase):

    def same_shape(self, one, other):
        if one is None or other is None:
            return one is None and other is None
        if one[1][:4] != other[1][:4]:
            return False
        return self.same_shape(one[0], other[0]) and self.same_shape(one[2], other[2])

    def test_any_stand(self):
        for rng, births, stand, tree in drawn_trees("restood", 60):
            for other in (0, 126, stand, rng.randrange(128), rng.randrange(128), 1 << 299):
                for more in (0, rng.randrange(128), 2 ** 300 - 1):
                    got = restood(tree, births, other, stand ^ other | more)
                    self.assertTrue(plain_sound(got, births, other))
                    self.assertTrue(self.same_shape(tree, got))
        self.assertIsNone(restood(tree=None, births=AB, stand=3, flip=3))


class TestReading(unittest.TestCase):

    def test_pieces_and_signs(self):
        for _, births, _, tree in drawn_trees("pieces", 40):
            pieces = pieces_of(tree)
            self.assertEqual(type(pieces).__name__, "generator")
            flattened = [((piece[0], piece[1] + k), piece[3], piece[4]) for piece in pieces for k in range(piece[2])]
            self.assertEqual(flattened, flat(tree))
            signs = signs_of(tree)
            self.assertIs(type(signs), tuple)
            self.assertEqual(signs, tuple(sign for sign, _, _ in flat(tree)))
        self.assertEqual(list(pieces_of(tree=None)), [])
        self.assertEqual(signs_of(tree=None), ())

    def test_text_between(self):
        for _, births, _, tree in drawn_trees("between", 40, height=4):
            text = "".join(letter(births, sign) for sign, _, on in flat(tree) if on)
            size = len(text)
            for low in range(size + 3):
                for high in range(size + 3):
                    if low <= high <= size:
                        self.assertEqual(text_between(tree, births, low, high), text[low:high])
                        continue
                    with self.assertRaises(BadPlace) as caught:
                        text_between(tree=tree, births=births, low=low, high=high)
                    self.assertEqual(caught.exception.at, low if low > size else high)
        self.assertEqual(text_between(None, AB, 0, 0), "")

    def test_tidied(self):
        least = set()
        for shuffled in (True, False):
            for _, births, stand, tree in drawn_trees("tidied", 60, shuffled=shuffled):
                runs = []
                for piece in pieces_of(tree):
                    if runs and runs[-1][0] == piece[0] and runs[-1][3] == piece[3]:
                        if runs[-1][1] + runs[-1][2] == piece[1]:
                            before = runs.pop()
                            piece = before[:2] + (before[2] + piece[2],) + piece[3:]
                    runs.append(piece)
                got = tidied(tree, births)
                self.assertTrue(plain_sound(got, births, stand))
                self.assertEqual(list(pieces_of(got)), runs)
                self.assertEqual(flat(got), flat(tree))
                self.assertEqual(height_of(got), len(runs).bit_length())
                least.add(len(runs) < len(list(pieces_of(tree))))
        self.assertEqual(least, {True, False})
        self.assertIsNone(tidied(tree=None, births=AB))

    def test_tidied_joins_no_others(self):
        births = ((0, HEAD, END, ""), (1, HEAD, END, "abcd"), (1, HEAD, END, "abcd"))
        for pieces, many in (
            (((1, 0, 2, 0, True), (1, 2, 2, 0, True)), 1), (((1, 0, 2, 0, True), (1, 3, 1, 0, True)), 2),
            (((1, 0, 2, 0, True), (1, 2, 2, 4, True)), 2), (((1, 0, 2, 0, True), (2, 2, 2, 0, True)), 2),
            (((1, 2, 2, 0, True), (1, 0, 2, 0, True)), 2), (((1, 0, 2, 4, False), (1, 2, 1, 4, False)), 1),
            (((1, 0, 1, 0, True), (1, 1, 1, 0, True), (1, 2, 1, 0, True), (1, 3, 1, 0, True)), 1),
        ):
            self.assertEqual(len(list(pieces_of(tidied(built(pieces, births), births)))), many)


class TestSound(unittest.TestCase):

    def exchanged(self, tree, path, node):
        """The tree with another node at the end of a path, all else as it stands."""
        if not path:
            return node
        at = path[0]
        return tree[:at] + (self.exchanged(tree[at], path[1:], node),) + tree[at + 1:]

    def paths(self, tree, path=()):
        if tree is not None:
            yield path, tree
            yield from self.paths(tree[0], path + (0,))
            yield from self.paths(tree[2], path + (2,))

    def test_sound_and_wrong(self):
        for rng, births, stand, tree in drawn_trees("is sound", 40, height=4):
            self.assertIs(is_sound(tree, births, stand), True)
            for path, node in self.paths(tree):
                for at in range(3, 8):
                    for number in {node[at] + 1, max(node[at] - 1, 0), 0, 10 ** 9} - {node[at]}:
                        wrong = node[:at] + (number,) + node[at + 1:]
                        self.assertIs(is_sound(self.exchanged(tree, path, wrong), births, stand), False)
                piece = node[1]
                others = [piece[:4] + (not piece[4],)]
                for at in range(4):
                    numbers = {piece[at] + 1, max(piece[at] - 1, 0), 0, 10 ** 9, len(births)} - {piece[at]}
                    others += [piece[:at] + (number,) + piece[at + 1:] for number in numbers]
                for other in others:
                    self.same_as_told(self.exchanged(tree, path, node[:1] + (other,) + node[2:]), births, stand)
            for other in range(0, 128, 9):
                self.assertIs(is_sound(tree, births, other), plain_sound(tree, births, other))

    def same_as_told(self, tree, births, stand):
        self.assertIs(is_sound(tree, births, stand), plain_sound(tree, births, stand))

    def test_wrong_pieces_with_right_numbers(self):
        rng = rng_for("pieces that do not fit")
        wrong = 0
        for _ in range(60):
            births, stand, tree = drawn_tree(rng, rng.randint(1, 4))
            pieces = list(pieces_of(tree))
            at = rng.randrange(len(pieces))
            chunk, start, many, cutters, on = pieces[at]
            for piece in ((chunk, start, many, cutters, not on), (chunk, start, many, cutters ^ stand, on),
                          pieces[at - 1], (0, 0, 1, 0, False), (0, 0, 2, 0, True), (chunk, start, 0, cutters, on),
                          (chunk, start, many + 9, cutters, on), (chunk, start + 9, many, cutters, on)):
                changed = pieces[:at] + [piece] + pieces[at + 1:]
                other = built(tuple(changed), births)
                expected = plain_sound(other, births, stand)
                self.assertIs(is_sound(tree=other, births=births, stand=stand), expected)
                wrong += not expected
            twice = built(tuple(pieces + pieces[-1:]), births)
            self.assertIs(is_sound(twice, births, stand), False)
        self.assertGreater(wrong, 200)

    def test_wrong_shapes(self):
        rng = rng_for("shapes")
        births, pieces = drawn_pieces(rng, 60, 126)
        for side in (0, 1):
            tree = None
            for many, piece in enumerate(pieces, 1):
                tree = node_of(tree, piece, None, births) if side else node_of(None, piece, tree, births)
                self.assertIs(is_sound(tree, births, 126), many <= 2)
        self.assertIs(is_sound(None, births, 126), True)
        low = built(tuple(pieces[:7]), births)
        high = built(tuple(pieces[8:9]), births)
        self.assertIs(is_sound(node_of(low, pieces[7], high, births), births, 126), False)
        high = built(tuple(pieces[8:10]), births)
        self.assertIs(is_sound(node_of(low, pieces[7], high, births), births, 126), True)

    def test_exchanged_subtrees(self):
        rng = rng_for("subtrees")
        births, stand, tree = drawn_tree(rng, 4)
        for path, node in self.paths(tree):
            for _, other in self.paths(tree):
                for wrong in (other, None):
                    if wrong != node:
                        got = self.exchanged(tree, path, wrong)
                        self.assertIs(is_sound(got, births, stand), plain_sound(got, births, stand))

    def test_a_subtree_that_stands_everywhere(self):
        births = ((0, HEAD, END, ""), (1, HEAD, END, "ab"))
        tree = None
        for _ in range(60):
            tree = node_of(tree, (1, 0, 1, 0, True), tree, births)
        self.assertIs(is_sound(tree, births, 2), False)

    def test_border_has_no_piece(self):
        for piece in ((0, 0, 1, 0, True), (0, 0, 2, 0, False)):
            tree = (None, piece, None, 1, piece[2] if piece[4] else 0, 0, piece[2], 1)
            self.assertIs(is_sound(tree, AB, 14), False)


class TestLongest(unittest.TestCase):

    def test_many_pieces(self):
        births = ((0, HEAD, END, ""),) + tuple((1, HEAD, END, "abcdefghijklmnopqrst") for _ in range(900))
        pieces = tuple((chunk, 2 * k, 2, 4 * (k % 2), k % 2 == 0) for k in range(10) for chunk in range(1, 901))
        tree = built(pieces, births)
        self.assertEqual((height_of(tree), signs_in(tree), shown_of(tree)), (14, 18000, 9000))
        self.assertIs(is_sound(tree, births, 6), True)
        left, right = cut_shown(tree, births, 4444)
        self.assertEqual(signs_of(left) + signs_of(right), signs_of(tree))
        after, stretches = cut_by(tree, births, 5, 1, 8998)
        self.assertEqual((shown_of(after), len(stretches)), (2, 4500))
        self.assertIs(is_sound(restood(after, births, 2, 36), births, 2), True)


if __name__ == "__main__":
    unittest.main()
