"""Steps brought through rows, three steps commuted, and what a step in a row needs. No row handed over is changed."""

from stepscommuted.commuting import commuted

# Which place is commuted with the next one, time after time, to turn three steps the other way round.
TWO_WAYS = ((0, 1, 0), (1, 0, 1))


def commuted_at(row, place):
    """Answer the row with the step at the place and the next one commuted, or None if they don't commute."""
    pair = commuted(row[place], row[place + 1])
    if pair is None:
        return None
    return row[:place] + list(pair) + row[place + 2:]


def brought_ahead(row, place, goal):
    """Answer the row with its step at the place brought ahead, to the goal if it comes there, and its place then."""
    while place > goal:
        after = commuted_at(row, place - 1)
        if after is None:
            break
        row = after
        place -= 1
    return (row, place)


def brought_behind(row, place):
    """Answer the row with its step at the place brought behind as far as it comes, and its place then."""
    while place < len(row) - 1:
        after = commuted_at(row, place)
        if after is None:
            break
        row = after
        place += 1
    return (row, place)


def rest_brought_ahead(row, place):
    """Answer the row with the step at the place and all behind it ahead of all before it, or None if that can't be."""
    for at in range(place, len(row)):
        brought = brought_ahead(row, at, at - place)
        if brought[1] > at - place:
            return None
        row = brought[0]
    return row


def commuted_in_turn(row, places):
    for place in places:
        row = commuted_at(row, place)
        if row is None:
            return None
    return row


def three_commuted(row):
    """Answer what comes out of a row of three steps in each of the two ways, None where one can't be gone."""
    return [commuted_in_turn(row, places) for places in TWO_WAYS]


def needed_places(row, place):
    """Answer the places of the steps that the one at the place needs, rising."""
    places = []
    kept = [row[place]]
    for at in range(place - 1, -1, -1):
        joined = [row[at]] + kept
        brought = brought_behind(joined, 0)
        if brought[1] == len(kept):
            # It's left out, so the steps ahead of it meet those kept as they are without it.
            kept = brought[0][:-1]
        else:
            kept = joined
            places = [at] + places
    return places
