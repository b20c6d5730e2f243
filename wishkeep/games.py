"""Who has the places of an arena, and tables by which it is seen move by move.

Many places at once are told by one number: its bit k is so if place k is one of them. The other one's places are found
first, some more time after time, by counts that fall along each play; all that are left are ours.
"""

from wishkeep.arena import need_arena
from wishkeep.boards import has_bit


def bits_of(places):
    """One number for some places, each told once."""
    return sum([1 << place for place in places])


def ends_by(answers, goal, wanted):
    """Where the moves lead: those that meet a wanted goal, others that meet a given one, and the rest."""
    done = 0
    kept = 0
    rest = 0
    for behind, met, metwanted in answers:
        if wanted in metwanted:
            done = done | (1 << behind)
        elif goal in met:
            kept = kept | (1 << behind)
        else:
            rest = rest | (1 << behind)
    return (done, kept, rest)


def views_of(moves, given, wanted):
    """For a wanted goal, for each given one, of each place, for each letter that comes: where its moves lead."""
    return [[[ends_by(answers, goal, wanted) for answers in place] for place in moves] for goal in range(given)]


def drawn(needs):
    """
    The fewest places such that each one is there that needs only such as are there, by pairs of a place and what it
    needs: for each of them how many were there ahead of it.
    """
    counts = {}
    bits = 0
    waiting = {}
    ready = needs[::-1]
    while len(ready) > 0:
        place, need = ready.pop()
        missing = need & ~bits
        if missing > 0:
            # It waits for one of those that are missing: ahead of that one it can't be there.
            waiting.setdefault(missing.bit_length() - 1, []).append((place, need))
        elif place not in counts:
            counts[place] = len(counts)
            bits = bits | (1 << place)
            ready.extend(waiting.pop(place, []))
    return counts


def drawn_in(view, theirs, places):
    """The places from which the other one comes to theirs whatever is answered, by falling counts."""
    return drawn([(place, (done | kept | rest) & ~theirs) for place in places for done, kept, rest in view[place]])


def held_off(view, theirs, places):
    """
    The places from which the other one comes to theirs, or meets the given goal within the places, by falling counts,
    and neither meets the wanted goal nor leaves the places ahead of that.
    """
    inside = bits_of(places)
    needs = []
    for place in places:
        for done, kept, rest in view[place]:
            if done & ~theirs == 0 and (kept | rest) & ~(theirs | inside) == 0:
                needs.append((place, rest & ~theirs))
    return drawn(needs)


def all_held_off(views, theirs, places):
    """The most of the places within which the other one can do so for each given goal: the counts for each."""
    told = []
    while len(told) < len(views):
        counts = held_off(views[len(told)], theirs, places)
        told.append(counts)
        if len(counts) < len(places):
            # What is left out may have been needed for a goal that was looked at.
            places = sorted(counts)
            told = []
    return told


def untold(entries):
    """The places without an entry."""
    return [place for place, entry in enumerate(entries) if entry is None]


def told_bits(entries):
    """The places with an entry, as one number."""
    return bits_of([place for place, entry in enumerate(entries) if entry is not None])


def lost_of(arena):
    """What lost tells of a good arena."""
    moves, given, wanted = arena
    views = [views_of(moves, given, goal) for goal in range(wanted)]
    entries = [None] * len(moves)
    number = goal = tried = 0
    while tried < wanted:
        # These would be found below, too, but one by one, with a long look at all places ahead of each.
        near = drawn_in(views[goal][0], told_bits(entries), untold(entries))
        for place, ahead in near.items():
            entries[place] = (number + ahead, goal, (0,) * given)
        number += len(near)
        counts = all_held_off(views[goal], told_bits(entries), untold(entries))
        for place in counts[0]:
            entries[place] = (number, goal, tuple([count[place] for count in counts]))
        if len(counts[0]) > 0:
            number += 1
            tried = 0
        else:
            goal = (goal + 1) % wanted
            tried += 1
    return tuple(entries)


def held_on(view, our, got, places):
    """
    The most of our places, of those not got yet, within which we can go on without the given goal until we meet the
    wanted one, or come to such as are got.
    """
    needs = []
    for place in places:
        for done, kept, rest in view[place]:
            if done & our == 0 and (kept | rest) & got == 0:
                needs.append((place, rest & our))
    left = drawn(needs)
    return [place for place in places if place not in left]


def held_for(views, our):
    """What held tells for one wanted goal, our places being told as one number."""
    entries = [None] * len(views[0])
    number = goal = tried = 0
    while tried < len(views):
        places = [place for place in untold(entries) if has_bit(our, place)]
        some = held_on(views[goal], our, told_bits(entries), places)
        for place in some:
            entries[place] = (number, goal)
        if len(some) > 0:
            number += 1
            tried = 0
        else:
            tried += 1
        goal = (goal + 1) % len(views)
    return tuple(entries)


def held_beside(arena, table):
    """What held tells of a good arena of which lost tells this table."""
    moves, given, wanted = arena
    our = bits_of(untold(table))
    return tuple([held_for(views_of(moves, given, goal), our) for goal in range(wanted)])


def ours(arena):
    """Our places, rising."""
    need_arena(arena)
    return tuple(untold(lost_of(arena)))


def others(arena):
    """The other one's places, rising."""
    need_arena(arena)
    return tuple([place for place, entry in enumerate(lost_of(arena)) if entry is not None])


def held(arena):
    """For each wanted goal, for each place of ours, by which entry we meet it, or a given goal comes to its end."""
    need_arena(arena)
    return held_beside(arena, lost_of(arena))


def lost(arena):
    """For each place of the other one, by which entry some wanted goal comes to its end, and each given one is met."""
    need_arena(arena)
    return lost_of(arena)
