"""What comes of setting the lines of a document, and how a part of it is set anew [18.4]."""


class Outcome:
    """All that comes of setting lines, with what is held at each rest place. It never changes."""

    def __init__(self, held_at, entries_ahead, made_boxes, entries):
        # The dict from the rest places to what is held there, and that to how many entries of the log come ahead.
        self.held_at = held_at
        self.entries_ahead = entries_ahead
        self.made_boxes = made_boxes
        self.entries = entries


def begun(held):
    """The outcome of no line yet, with what is held at the beginning."""
    return Outcome({0: held}, {0: 0}, (), ())


def until(table, place):
    """The entries of a dict for places up to one."""
    return {key: table[key] for key in table if key <= place}


def renewed(old, lines, begin, engine, least_end, shift):
    """The outcome of lines whose first ones, up to a rest place, are set already, and the end of what is set anew.

    From the least end on, a line is the one that was by a shift less in the old outcome. The end is None if all lines
    from the rest place on are set anew.
    """
    rests = until(old.held_at, begin)
    entries_ahead = until(old.entries_ahead, begin)
    place = begin
    end = None
    while end is None and place <= len(lines):
        if engine.is_resting():
            rests[place] = engine.held_now()
            entries_ahead[place] = old.entries_ahead[begin] + len(engine.entries)
            if place >= least_end and is_kept(old, place - shift, rests[place]):
                end = place
        if end is None and place < len(lines):
            engine.feed(lines[place] + "\n")
        place += 1
    if end is None:
        engine.finish()
    boxes = (*old.made_boxes[:old.held_at[begin].many_out], *engine.made_boxes)
    log = (*old.entries[:old.entries_ahead[begin]], *engine.entries)
    outcome = Outcome(rests, entries_ahead, boxes, log)
    if end is not None:
        outcome = with_tail(outcome, end, old, shift)
    return (outcome, end)


def is_kept(old, place, held):
    """Whether a place was a rest place of the old outcome, with an equal state."""
    return place in old.held_at and old.held_at[place].told_state() == held.told_state()


def with_tail(outcome, end, old, shift):
    """An outcome up to its end, with all that the old one has behind the same place."""
    old_end = end - shift
    held, old_held = outcome.held_at[end], old.held_at[old_end]
    rests = dict(outcome.held_at)
    entries_ahead = dict(outcome.entries_ahead)
    more_out = held.many_out - old_held.many_out
    more_entries = entries_ahead[end] - old.entries_ahead[old_end]
    for place in list(old.held_at):
        if place > old_end:
            line = moved_line(old.held_at[place].last_line, old_end, shift, held.last_line)
            rests[place + shift] = old.held_at[place].moved_to(line, more_out)
            entries_ahead[place + shift] = old.entries_ahead[place] + more_entries
    boxes = (*outcome.made_boxes, *old.made_boxes[old_held.many_out:])
    entries = [
        (kind, moved_line(line, old_end, shift, held.last_line), told)
        for kind, line, told in old.entries[old.entries_ahead[old_end]:]
    ]
    return Outcome(rests, entries_ahead, boxes, (*outcome.entries, *entries))


def moved_line(line, old_end, shift, last_line):
    """The index of a line that was noted behind the end; no token can have come behind it."""
    if line < old_end:
        return last_line
    return line + shift
