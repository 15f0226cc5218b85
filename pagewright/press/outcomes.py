"""What comes of setting the lines of a document, and how a part of it is set anew [18.4]."""


class Outcome:
    """All that comes of setting lines, with what is held at each rest place. It never changes."""

    def __init__(self, rests, entries_ahead, boxes, log):
        # The dict from the rest places to what is held there, and that to how many entries of the log come ahead.
        self.rests = rests
        self.entries_ahead = entries_ahead
        self.boxes = boxes
        self.log = log


def begun(held):
    """The outcome of no line yet, with what is held at the beginning."""
    return Outcome({0: held}, {0: 0}, (), ())


def until(table, place):
    """The entries of a dict for places up to one."""
    return {key: table[key] for key in table if key <= place}


def renewed(old, lines, begin, engine, least_end, shift):
    """The outcome of lines whose first ones, up to a rest place, are set already, and the end of what is set anew.

    From the least end on, a line is the one that was by a shift less in the old outcome. The end is None if all lines
    from the rest place on are set anew.
    """
    rests = until(old.rests, begin)
    entries_ahead = until(old.entries_ahead, begin)
    place = begin
    end = None
    while end is None and place <= len(lines):
        if engine.is_resting():
            rests[place] = engine.held_now()
            entries_ahead[place] = old.entries_ahead[begin] + len(engine.log)
            if place >= least_end and is_kept(old, place - shift, rests[place]):
                end = place
        if end is None and place < len(lines):
            engine.feed(lines[place] + "\n")
        place += 1
    if end is None:
        engine.finish()
    boxes = (*old.boxes[:old.rests[begin].many_out], *engine.boxes)
    log = (*old.log[:old.entries_ahead[begin]], *engine.log)
    outcome = Outcome(rests, entries_ahead, boxes, log)
    if end is not None:
        outcome = with_tail(outcome, end, old, shift)
    return (outcome, end)


def is_kept(old, place, held):
    """Whether a place was a rest place of the old outcome, with an equal state."""
    return place in old.rests and old.rests[place].told_state() == held.told_state()


def with_tail(outcome, end, old, shift):
    """An outcome up to its end, with all that the old one has behind the same place."""
    old_end = end - shift
    held, old_held = outcome.rests[end], old.rests[old_end]
    rests = dict(outcome.rests)
    entries_ahead = dict(outcome.entries_ahead)
    more_out = held.many_out - old_held.many_out
    more_entries = entries_ahead[end] - old.entries_ahead[old_end]
    for place in list(old.rests):
        if place > old_end:
            line = moved_line(old.rests[place].line, old_end, shift, held.line)
            rests[place + shift] = old.rests[place].moved_to(line, more_out)
            entries_ahead[place + shift] = old.entries_ahead[place] + more_entries
    boxes = (*outcome.boxes, *old.boxes[old_held.many_out:])
    entries = [
        (kind, moved_line(line, old_end, shift, held.line), told)
        for kind, line, told in old.log[old.entries_ahead[old_end]:]
    ]
    return Outcome(rests, entries_ahead, boxes, (*outcome.log, *entries))


def moved_line(line, old_end, shift, last_line):
    """The index of a line that was noted behind the end; no token can have come behind it."""
    if line < old_end:
        return last_line
    return line + shift
