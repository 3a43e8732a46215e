"""Forms: cells by which pictures are made greater and smaller.

A form is kept as a sum of parts, and each part as blocks whose cells are joined. A block is told as a box of a
picture is: least dx, least dy, greatest dx, greatest dy. So what is done hangs neither on how long the stretches
are nor, but for a few steps more, on how many rows a block has.
"""

from shapethin.errors import NoForm
from shapethin.pictures import box_of, common, join, moved, picture_of, rows_with_cells, stretches_of
from shapethin.rows import count_up_to, row_shrunk

ONE_CELL = ((0, ((0, 0),)),)


def blocks_of(picture):
    blocks = []
    for a, b, y in sorted([(a, b, y) for y, a, b in stretches_of(picture)]):
        # Like stretches in rows that follow one another are one block.
        if blocks and blocks[-1] == (a, blocks[-1][1], b, y - 1):
            blocks[-1] = (a, blocks[-1][1], b, y)
        else:
            blocks.append((a, y, b, y))
    return tuple(blocks)


def parts_of_sum(parts):
    # Parts of one block are one block together. Without this, a sum of a sum with itself, and so on,
    # of boxes would soon have a million parts.
    single = [blocks[0] for blocks in parts if len(blocks) == 1]
    together = tuple([sum([block[side] for block in single]) for side in range(4)])
    return ((together,),) + tuple([blocks for blocks in parts if len(blocks) > 1])


def spread_down(picture, by):
    done = 0
    while done < by:
        # What is spread so far fills the rows up to done, so that each step may double them.
        step = min(done + 1, by - done)
        picture = join(picture, moved(picture, 0, step))
        done += step
    return picture


def shrunk_down(picture, by):
    done = 0
    while done < by:
        step = min(done + 1, by - done)
        picture = common(picture, moved(picture, 0, -step))
        done += step
    return picture


def greater_by_block(picture, block):
    wide = [(y + block[1], a + block[0], b + block[2]) for y, a, b in stretches_of(picture)]
    if block[1] == block[3]:
        return wide
    # Stretches that meet are one ahead of the spreading: that leaves less to be spread.
    return stretches_of(spread_down(picture_of(wide), block[3] - block[1]))


def greater_by_part(picture, blocks):
    stretches = []
    for block in blocks:
        stretches.extend(greater_by_block(picture, block))
    return picture_of(stretches)


def smaller_by_block(picture, block):
    narrow = rows_with_cells([(y - block[1], row_shrunk(row, block[0], block[2])) for y, row in picture])
    return shrunk_down(narrow, block[3] - block[1])


def smaller_by_part(picture, blocks):
    # Of a shape the last block lies farthest to the right and the first farthest to the left:
    # taken ahead of the others, both together leave little to look at.
    kept = smaller_by_block(picture, blocks[-1])
    for block in blocks[:-1]:
        if kept == ():
            return ()
        kept = common(kept, smaller_by_block(reached(picture, box_of(kept), block), block))
    return kept


def reached(picture, box, block):
    # Of the picture only that matters to which the block reaches from a cell of the box.
    rows = begun_between(picture, box[1] + block[1], box[3] + block[3])
    return rows_with_cells([(y, begun_between(row, box[0] + block[0], box[2] + block[2])) for y, row in rows])


def begun_between(pairs, first, last):
    # The one that begins ahead of the first is told too, as a stretch may reach from there.
    return pairs[max(0, count_up_to(pairs, first) - 1):count_up_to(pairs, last)]


class Form:
    def __init__(self, parts):
        self.parts = parts

    def cells(self):
        return self.greater(ONE_CELL)

    def greater(self, picture):
        # In any order the parts do the same. In a sum a lone block stands first: smaller, that leaves less to the
        # parts behind it; greater, it goes last, so that its many rows are not yet there for the others.
        for blocks in reversed(self.parts):
            picture = greater_by_part(picture, blocks)
        return picture

    def smaller(self, picture):
        for blocks in self.parts:
            picture = smaller_by_part(picture, blocks)
        return picture

    def opened(self, picture):
        return self.greater(self.smaller(picture))

    def closed(self, picture):
        return self.smaller(self.greater(picture))


class Box(Form):
    def __init__(self, left, up, right, down):
        if min(left, up, right, down) < 0:
            raise NoForm("a box has no number below 0")
        Form.__init__(self, (((-left, -up, right, down),),))


class Cross(Form):
    def __init__(self, arm):
        if arm < 0:
            raise NoForm("a cross has no arm below 0")
        Form.__init__(self, (((-arm, 0, arm, 0), (0, -arm, 0, arm)),))


class Shape(Form):
    def __init__(self, picture):
        if picture == ():
            raise NoForm("a form has at least one cell")
        Form.__init__(self, (blocks_of(picture),))


class Sum(Form):
    def __init__(self, one, other):
        Form.__init__(self, parts_of_sum(one.parts + other.parts))
