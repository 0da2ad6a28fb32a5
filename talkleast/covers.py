"""The fewest blocks that cover a word, and the paper that shows that one fewer does not."""

from talkleast.blocks import widest
from talkleast.tables import check_small


def fewest_cover(table, word):
    check_small(table)
    blocks = widest(table, word)
    bare = entries_by_choice(table, word, blocks)
    most = 0
    cover = cover_within(bare, blocks, most)
    while cover is None:
        most += 1
        cover = cover_within(bare, blocks, most)
    return cover


def cover_paper(table, word):
    fewest = len(fewest_cover(table, word))
    if fewest == 0:
        return None
    blocks = widest(table, word)
    return case_for(entries_by_choice(table, word, blocks), blocks, fewest - 1)


# An entry that few blocks contain leaves few cases, so such entries come first.
def entries_by_choice(table, word, blocks):
    entries = []
    for row, words in enumerate(table):
        entries.extend([(row, column) for column in range(len(words)) if words[column] == word])
    return sorted(entries, key=lambda entry: len(blocks_with(blocks, entry)))


def blocks_with(blocks, entry):
    return [block for block in blocks if contains(block, entry)]


def contains(block, entry):
    return (block[0] >> entry[0]) & (block[1] >> entry[1]) & 1 == 1


def left_bare(bare, block):
    return [entry for entry in bare if not contains(block, entry)]


# None if so many blocks do not suffice. Some block must contain the first bare entry, so only these are tried.
def cover_within(bare, blocks, most):
    if bare == []:
        return []
    if most == 0:
        return None
    for block in blocks_with(blocks, bare[0]):
        others = cover_within(left_bare(bare, block), blocks, most - 1)
        if others is not None:
            return [block] + others
    return None


# There is always a bare entry, as fewer blocks than the fewest never cover.
def case_for(bare, blocks, most):
    entry = bare[0]
    if most == 0:
        return (entry[0], entry[1], [])
    chosen = blocks_with(blocks, entry)
    return (entry[0], entry[1], [case_for(left_bare(bare, block), blocks, most - 1) for block in chosen])
