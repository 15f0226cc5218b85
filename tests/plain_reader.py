"""A reader by [2.2] and [2.3], for the tests alone: as simple as can be, and made on its own."""

BLANK = ("sign", " ", "blank")
PARAGRAPH = ("word", "par")


def lines_of(text):
    """The signs of each line that are read, without the newline [2.2]."""
    lines = text.split("\n")
    if lines[-1] == "":
        lines.pop()
    return [line.rstrip(" ") for line in lines]


def tokens_of(text, sorts):
    """All tokens of a text under a table, something that tells a sort by `sorts[sign]`."""
    tokens = []
    for line in lines_of(text):
        tokens.extend(tokens_of_line(line + "\n", sorts))
    return tuple(tokens)


def tokens_of_line(signs, sorts):
    """The tokens of the signs of a line, the newline being the last one [2.3]."""
    tokens, state, at = [], "new", 0
    while at < len(signs):
        sort = sorts[signs[at]]
        if sort == "escape":
            name, state = name_at(signs, at + 1, sorts)
            tokens.append(("word", name if name else "\n"))
            at += 1 + len(name)
            continue
        if sort in ("open", "close", "slot", "letter", "other", "active"):
            tokens.append(("sign", signs[at], sort))
            state = "mid"
        elif sort == "blank":
            if state == "mid":
                tokens.append(BLANK)
                state = "skip"
        elif sort == "end":
            if state == "new":
                tokens.append(PARAGRAPH)
            elif state == "mid":
                tokens.append(BLANK)
        if sort in ("end", "comment"):
            return tokens
        at += 1
    return tokens


def name_at(signs, at, sorts):
    """The name of the word whose name begins at an index, and the state behind it; an empty name at the end."""
    if at == len(signs):
        return "", "mid"
    if sorts[signs[at]] != "letter":
        return signs[at], "skip" if sorts[signs[at]] == "blank" else "mid"
    end = at
    while end < len(signs) and end < at + 60 and sorts[signs[end]] == "letter":
        end += 1
    return signs[at:end], "skip"
