"""Rooms that are alike told as one, of machines and of plans alike."""

from wishkeep.counts import Numbered


def blocks_by(marks):
    """Rooms of one mark laid together: the block of each room, and the rooms of each block."""
    found = Numbered(marks[0])
    block_of = [found.number_of(mark) for mark in marks]
    blocks = [{} for _ in found.things]
    for room, block in enumerate(block_of):
        blocks[block][room] = True
    return (block_of, blocks)


def ways_into(leads):
    """For each letter, for each room, the rooms from which it leads there."""
    into = [[[] for _ in leads] for _ in leads[0]]
    for room, behind in enumerate(leads):
        for letter, other in enumerate(behind):
            into[letter][other].append(room)
    return into


def take_out(some, block, block_of, blocks):
    """Makes a block of some rooms of one; of these and the rest the fewer ones are the new block."""
    if 2 * len(some) > len(blocks[block]):
        stay = {room: True for room in some}
        some = [room for room in blocks[block] if room not in stay]
    for room in some:
        del blocks[block][room]
        block_of[room] = len(blocks)
    blocks.append({room: True for room in some})


def split_by(rooms, block_of, blocks):
    """Parts the blocks, so that of each one all rooms or none are among these."""
    touched = {}
    for room in rooms:
        touched.setdefault(block_of[room], []).append(room)
    for block, some in touched.items():
        if len(some) < len(blocks[block]):
            take_out(some, block, block_of, blocks)


def blocks_alike(marks, leads):
    """For each room the number of its block: rooms are of one just if each run from both brings the same marks."""
    block_of, blocks = blocks_by(marks)
    into = ways_into(leads)
    waiting = list(range(len(blocks)))
    # A block has to wait again only by its smaller half: what leads to the other one is told by what led to both.
    # So each room waits few times, also where rooms stand one behind the other.
    while len(waiting) > 0:
        rooms = list(blocks[waiting.pop()])
        for before in into:
            many = len(blocks)
            split_by([room for other in rooms for room in before[other]], block_of, blocks)
            waiting.extend(list(range(many, len(blocks))))
    return block_of


def merged_rooms(marks, leads):
    """
    Rooms to keep, one of each block that is come to, in the order of the least rows of letters; and for each room
    that is in such a block the place of the kept one.
    """
    block_of = blocks_alike(marks, leads)
    kept = [0]
    places = {block_of[0]: 0}
    at = 0
    while at < len(kept):
        behind = leads[kept[at]]
        for room in behind:
            if block_of[room] not in places:
                places[block_of[room]] = len(kept)
                kept.append(room)
        at += 1
    return (kept, {room: places[block] for room, block in enumerate(block_of) if block in places})
