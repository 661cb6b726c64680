"""Told runs: for each rule one that breaks without it."""

# 1 says yes to the row of 0 and falls: nothing of it is left, and it takes the row of 2, which begins anew.
SYNC_RUN = ((0, 1, 2), 2, 6, (
    ("beat", 0), ("beat", 0), ("beat", 0), ("take", 0), ("take", 0), ("take", 1), ("take", 1), ("take", 1),
    ("take", 1), ("take", 1), ("call", 0, ("put", "a", 1)), ("take", 1), ("take", 1), ("take", 1), ("take", 1),
    ("take", 1), ("fall", 1, ()), ("rise", 1), ("beat", 2), ("beat", 2), ("beat", 2), ("beat", 2), ("beat", 2),
    ("take", 2), ("take", 2), ("take", 2), ("take", 2), ("take", 2), ("take", 2), ("take", 2),
    ("call", 1, ("put", "a", 2)), ("lose", 2), ("again", 1, 2), ("take", 2), ("take", 2), ("take", 2), ("take", 2)))

# Of three puts of 1 just the last one is kept. Behind newer ones it brings back a row of the term 0, from which 2
# had taken over; so 0 is granted its next term with this row.
LIFE_RUN = ((0, 1, 2), 3, 6, (
    ("beat", 0), ("beat", 0), ("beat", 0), ("sync", 0), ("take", 0), ("sync", 0), ("take", 2), ("take", 0),
    ("sync", 1), ("take", 1), ("sync", 0), ("take", 2), ("call", 0, ("put", "a", 1)), ("take", 1), ("take", 1),
    ("sync", 0), ("take", 1), ("beat", 0), ("sync", 0), ("take", 2), ("call", 1, ("put", "a", 2)), ("take", 1),
    ("take", 2), ("sync", 0), ("take", 2), ("beat", 0), ("sync", 0), ("take", 3), ("fall", 1, (2,)), ("rise", 1),
    ("beat", 2), ("beat", 2), ("beat", 2), ("beat", 2), ("beat", 2), ("sync", 2), ("take", 5), ("sync", 1),
    ("take", 5), ("sync", 2), ("take", 5), ("take", 5), ("sync", 2), ("take", 5), ("call", 2, ("put", "a", 3)),
    ("lose", 6), ("again", 2, 2), ("take", 6), ("sync", 2), ("take", 6), ("beat", 2), ("sync", 2), ("take", 6),
    ("take", 7), ("sync", 1), ("take", 7), ("fall", 1, ()), ("rise", 1), ("take", 2), ("beat", 0), ("sync", 0),
    ("take", 6), ("take", 6), ("sync", 1), ("take", 7), ("beat", 0), ("beat", 0), ("beat", 0), ("sync", 0),
    ("take", 7), ("sync", 0), ("take", 7), ("sync", 1), ("take", 8), ("take", 8), ("sync", 0), ("take", 8),
    ("take", 8), ("sync", 1), ("take", 8)))

# 1 has promised the term of 2, but still takes what 0 lays in the term ahead of it; and then what 2 lays.
PROMISE_RUN = ((0, 1, 2), 2, 6, (
    ("beat", 0), ("beat", 0), ("beat", 0), ("sync", 0), ("take", 0), ("sync", 0), ("take", 0), ("sync", 1),
    ("take", 1), ("take", 1), ("sync", 0), ("take", 1), ("take", 1), ("sync", 1), ("take", 1), ("beat", 2),
    ("beat", 2), ("beat", 2), ("beat", 2), ("beat", 2), ("sync", 2), ("take", 2), ("sync", 1), ("take", 2),
    ("sync", 2), ("take", 2), ("take", 2), ("sync", 2), ("take", 2), ("take", 2), ("sync", 1), ("take", 2),
    ("call", 0, ("put", "a", 1)), ("take", 2), ("sync", 0), ("take", 2), ("take", 2), ("sync", 1), ("take", 2),
    ("call", 1, ("put", "a", 2)), ("lose", 2), ("again", 1, 2), ("take", 2), ("sync", 2), ("take", 2), ("take", 2),
    ("sync", 1), ("take", 2)))

# 0 has decided a row with 1. 2 is granted its term by 1, and goes on with its own row, which has nothing.
BEST_RUN = ((0, 1, 2), 2, 6, (
    ("beat", 0), ("beat", 0), ("beat", 0), ("sync", 0), ("take", 0), ("sync", 0), ("take", 0), ("sync", 1),
    ("take", 1), ("take", 1), ("sync", 0), ("take", 1), ("take", 1), ("sync", 1), ("take", 1),
    ("call", 0, ("put", "a", 1)), ("take", 1), ("sync", 0), ("take", 1), ("take", 1), ("sync", 1), ("take", 1),
    ("beat", 2), ("beat", 2), ("beat", 2), ("beat", 2), ("beat", 2), ("sync", 2), ("take", 2), ("sync", 1),
    ("take", 2), ("sync", 2), ("take", 2), ("take", 2), ("sync", 2), ("take", 2), ("take", 2), ("sync", 1),
    ("take", 2), ("call", 1, ("put", "a", 2)), ("lose", 2), ("again", 1, 2), ("take", 2), ("sync", 2), ("take", 2),
    ("take", 2), ("sync", 1), ("take", 2)))

# 1 leads with three entries, and lays just two of them to 2; so 2, not 0, has the best row when 2 asks.
WHOLE_RUN = ((0, 1, 2), 3, 6, (
    ("beat", 0), ("beat", 0), ("beat", 0), ("sync", 0), ("take", 0), ("sync", 0), ("take", 0), ("sync", 1),
    ("take", 1), ("take", 1), ("sync", 0), ("take", 1), ("take", 1), ("sync", 1), ("take", 1),
    ("call", 0, ("put", "a", 1)), ("take", 1), ("sync", 0), ("take", 1), ("take", 1), ("sync", 1), ("take", 1),
    ("sync", 0), ("take", 1), ("call", 1, ("put", "a", 2)), ("take", 1), ("sync", 0), ("take", 1), ("take", 1),
    ("sync", 1), ("take", 1), ("sync", 0), ("take", 1), ("call", 2, ("put", "a", 3)), ("take", 1), ("sync", 0),
    ("take", 1), ("take", 1), ("sync", 1), ("take", 1), ("sync", 0), ("take", 1), ("beat", 1), ("beat", 1),
    ("beat", 1), ("beat", 1), ("sync", 1), ("take", 2), ("sync", 1), ("take", 2), ("sync", 2), ("take", 2),
    ("take", 2), ("sync", 1), ("take", 2), ("beat", 1), ("sync", 1), ("take", 5), ("beat", 2), ("sync", 2),
    ("take", 5), ("beat", 2), ("beat", 2), ("beat", 2), ("beat", 2), ("sync", 2), ("take", 5), ("sync", 0),
    ("take", 6), ("sync", 2), ("take", 6), ("take", 6), ("sync", 2), ("take", 6), ("call", 0, ("put", "a", 4)),
    ("lose", 6), ("again", 0, 2), ("take", 7), ("sync", 2), ("take", 7), ("beat", 2), ("sync", 2), ("take", 6),
    ("take", 6), ("take", 6), ("sync", 0), ("take", 7), ("take", 7)))

# 0 and 1 decide without 2 and 3, and these without them.
HALF_RUN = ((0, 1, 2, 3), 2, 6, (
    ("beat", 0), ("beat", 0), ("beat", 0), ("sync", 0), ("take", 0), ("sync", 0), ("take", 0), ("sync", 1),
    ("take", 2), ("take", 2), ("sync", 0), ("take", 2), ("take", 2), ("sync", 1), ("take", 2), ("beat", 2),
    ("beat", 2), ("beat", 2), ("beat", 2), ("beat", 2), ("sync", 2), ("take", 4), ("sync", 2), ("take", 4),
    ("sync", 3), ("take", 4), ("take", 4), ("sync", 2), ("take", 4), ("take", 4), ("sync", 3), ("take", 4),
    ("call", 0, ("put", "a", 1)), ("take", 4), ("sync", 0), ("take", 4), ("take", 4), ("sync", 1), ("take", 4),
    ("call", 1, ("put", "a", 2)), ("lose", 4), ("again", 1, 2), ("take", 4), ("sync", 2), ("take", 4), ("take", 4),
    ("sync", 3), ("take", 4)))

# 1 has laid the entry of 0 in the term 0, and that of 4 behind it. When 0 leads again, it counts the old length, and
# decides what just it and 2 have; 4 is granted its next term by 1 and 3, and decides another entry.
TERM_RUN = ((0, 1, 2, 3, 4), 2, 6, (
    ("beat", 0), ("beat", 0), ("beat", 0), ("sync", 0), ("take", 0), ("sync", 0), ("take", 0), ("sync", 1),
    ("take", 0), ("sync", 2), ("take", 2), ("take", 2), ("take", 2), ("sync", 0), ("take", 2), ("take", 2),
    ("sync", 1), ("take", 2), ("sync", 2), ("take", 2), ("take", 2), ("call", 0, ("put", "a", 1)), ("take", 2),
    ("sync", 0), ("take", 2), ("take", 2), ("sync", 1), ("beat", 4), ("beat", 4), ("beat", 4), ("beat", 4),
    ("beat", 4), ("beat", 4), ("beat", 4), ("sync", 4), ("take", 6), ("sync", 2), ("take", 6), ("sync", 3),
    ("take", 6), ("sync", 4), ("take", 6), ("take", 6), ("take", 6), ("sync", 4), ("take", 6),
    ("call", 1, ("put", "a", 2)), ("lose", 8), ("again", 1, 4), ("take", 8), ("sync", 4), ("take", 8), ("beat", 4),
    ("sync", 4), ("take", 5), ("take", 7), ("take", 8), ("sync", 1), ("take", 10), ("take", 10), ("sync", 4),
    ("take", 10), ("take", 10), ("sync", 1), ("take", 10), ("take", 10), ("take", 4), ("beat", 0), ("sync", 0),
    ("take", 0), ("sync", 3), ("take", 1), ("sync", 2), ("take", 8), ("take", 8), ("beat", 0), ("beat", 0),
    ("sync", 0), ("take", 8), ("sync", 0), ("take", 9), ("sync", 2), ("take", 9), ("sync", 3), ("take", 10),
    ("take", 10), ("take", 10), ("sync", 0), ("take", 10), ("take", 10), ("sync", 2), ("take", 11), ("take", 1),
    ("take", 8), ("beat", 4), ("beat", 4), ("beat", 4), ("beat", 4), ("beat", 4), ("beat", 4), ("beat", 4),
    ("sync", 4), ("take", 11), ("sync", 1), ("take", 12), ("sync", 3), ("take", 12), ("sync", 4), ("take", 12),
    ("take", 12), ("take", 12), ("sync", 4), ("take", 12), ("take", 2), ("take", 4), ("take", 10), ("sync", 1),
    ("take", 10), ("sync", 3), ("take", 10), ("take", 10), ("take", 10), ("take", 10)))

# 0 does not know that 2 leads, and answers a read with what was ahead of the put.
ROUND_RUN = ((0, 1, 2), 2, 6, (
    ("beat", 0), ("beat", 0), ("beat", 0), ("sync", 0), ("take", 0), ("sync", 0), ("take", 0), ("sync", 1),
    ("take", 1), ("take", 1), ("sync", 0), ("take", 1), ("take", 1), ("sync", 1), ("take", 1), ("beat", 2),
    ("beat", 2), ("beat", 2), ("beat", 2), ("beat", 2), ("sync", 2), ("take", 2), ("sync", 1), ("take", 2),
    ("sync", 2), ("take", 2), ("take", 2), ("sync", 2), ("take", 2), ("take", 2), ("sync", 1), ("take", 2),
    ("call", 0, ("put", "a", 1)), ("lose", 2), ("again", 0, 2), ("take", 2), ("sync", 2), ("take", 2), ("take", 2),
    ("sync", 1), ("take", 2), ("sync", 2), ("take", 2), ("call", 1, ("get", "a")), ("take", 2), ("sync", 0),
    ("take", 2)))

# In the epoch 1 the house 1 has accepted an entry of 0. Told of this epoch once more, it forgets it, and takes
# another entry from 2.
CARRY_RUN = ((0, 1, 2), 2, 6, (
    ("beat", 0), ("beat", 0), ("beat", 0), ("sync", 0), ("take", 0), ("sync", 0), ("take", 0), ("sync", 1),
    ("take", 1), ("take", 1), ("sync", 0), ("take", 1), ("take", 1), ("sync", 1), ("take", 1),
    ("call", 0, ("circle", (0, 1, 2))), ("take", 1), ("sync", 0), ("take", 1), ("take", 1), ("sync", 1), ("take", 1),
    ("sync", 0), ("take", 1), ("beat", 0), ("sync", 0), ("double", 1), ("take", 1), ("sync", 1), ("beat", 0),
    ("take", 3), ("beat", 0), ("sync", 0), ("take", 5), ("sync", 0), ("take", 5), ("sync", 1), ("take", 7),
    ("take", 7), ("sync", 0), ("take", 7), ("take", 7), ("sync", 1), ("take", 7), ("call", 0, ("put", "a", 1)),
    ("take", 7), ("sync", 0), ("take", 7), ("take", 7), ("sync", 1), ("take", 7), ("take", 1), ("beat", 2),
    ("sync", 2), ("take", 8), ("sync", 1), ("take", 8), ("beat", 2), ("beat", 2), ("beat", 2), ("beat", 2),
    ("sync", 2), ("take", 12), ("sync", 1), ("take", 12), ("sync", 2), ("take", 13), ("take", 13), ("sync", 2),
    ("take", 13), ("take", 13), ("sync", 1), ("take", 13), ("call", 1, ("put", "a", 2)), ("lose", 13),
    ("again", 1, 2), ("take", 13), ("sync", 2), ("take", 13), ("take", 13), ("sync", 1), ("take", 13)))


def told_run(word):
    """The run that breaks without a rule."""
    runs = {
        "sync": SYNC_RUN, "life": LIFE_RUN, "promise": PROMISE_RUN, "best": BEST_RUN, "whole": WHOLE_RUN,
        "half": HALF_RUN, "term": TERM_RUN, "round": ROUND_RUN, "carry": CARRY_RUN}
    return runs[word]
