"""Groups: the pieces of a picture that are near to one another when they are made greater by a form.

What a piece is made into is kept as boxes, and the boxes of all pieces as the leaves of a tree, in which node k stands
above the nodes 2k and 2k + 1: each node has the box round all that is left under it, or None. So the pieces near to
one are found without a look at all others, and those that have their place in a group are not met again.
"""

from shapethin.forms import blocks_of
from shapethin.pieces import picture_of_piece, pieces


def box_round(one, other):
    if one is None:
        return other
    if other is None:
        return one
    return (min(one[0], other[0]), min(one[1], other[1]), max(one[2], other[2]), max(one[3], other[3]))


def are_near(one, other):
    # The eight neighbours of a box's cells lie one beyond its sides.
    across = one[0] <= other[2] + 1 and other[0] <= one[2] + 1
    return across and one[1] <= other[3] + 1 and other[1] <= one[3] + 1


def tree_of(boxes):
    first_leaf = 1
    while first_leaf < len(boxes):
        first_leaf *= 2
    tree = [None] * first_leaf + boxes + [None] * (first_leaf - len(boxes))
    for node in range(first_leaf - 1, 0, -1):
        tree[node] = box_round(tree[2 * node], tree[2 * node + 1])
    return tree


def take_leaf(tree, leaf):
    tree[leaf] = None
    node = leaf // 2
    while node > 0:
        tree[node] = box_round(tree[2 * node], tree[2 * node + 1])
        node //= 2


def leaves_near(tree, box):
    found = []
    waiting = [1]
    while waiting:
        node = waiting.pop()
        if tree[node] is not None and are_near(tree[node], box):
            if 2 * node < len(tree):
                waiting.extend([2 * node, 2 * node + 1])
            else:
                found.append(node)
    return found


class Ungrouped:
    def __init__(self, boxes_by_piece):
        self.boxes_by_piece = boxes_by_piece
        boxes = []
        owners = []
        for piece, some in enumerate(boxes_by_piece):
            boxes.extend(some)
            owners.extend([piece] * len(some))
        self.tree = tree_of(boxes)
        self.pieces_by_leaf = dict(enumerate(owners, start=len(self.tree) // 2))
        self.leaves_by_piece = {}
        for leaf, piece in self.pieces_by_leaf.items():
            self.leaves_by_piece.setdefault(piece, []).append(leaf)

    def has_piece(self, piece):
        return piece in self.leaves_by_piece

    def take(self, piece):
        for leaf in self.leaves_by_piece[piece]:
            take_leaf(self.tree, leaf)
        self.leaves_by_piece.pop(piece)

    def take_near(self, piece):
        near = []
        for box in self.boxes_by_piece[piece]:
            # Taken at once, so that no later box meets them again.
            for other in self.pieces_near(box):
                self.take(other)
                near.append(other)
        return sorted(near)

    def pieces_near(self, box):
        return sorted(set([self.pieces_by_leaf[leaf] for leaf in leaves_near(self.tree, box)]))


def group_from(first, ungrouped):
    ungrouped.take(first)
    group = [(first, None)]
    place = 0
    while place < len(group):
        group.extend([(piece, place) for piece in ungrouped.take_near(group[place][0])])
        place += 1
    return group


def groups(picture, form):
    boxes_by_piece = [blocks_of(form.greater(picture_of_piece(piece))) for piece in pieces(picture)]
    ungrouped = Ungrouped(boxes_by_piece)
    told = []
    for piece in range(len(boxes_by_piece)):
        if ungrouped.has_piece(piece):
            told.append(group_from(piece, ungrouped))
    return told
