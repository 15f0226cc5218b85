"""What settles the pairs of signs of a font, and which of them are reached [7.6] [7.7]."""


def own_sign(entry, right):
    """The sign that settles a pair without inner pairs; `entry` is that of the program, or None."""
    if entry is None or entry[0] == "kern":
        return right
    return entry[1]


def has_inner_pairs(entry):
    """Whether a pair with this entry has inner pairs."""
    return entry is not None and entry[0] == "join" and entry[2] != "none"


def first_inner(entry, left, right):
    """The first inner pair of a pair with such an entry."""
    if entry[2] == "right":
        return (entry[1], right)
    return (left, entry[1])


class Settling:
    """All pairs of a font that have been worked out."""

    def __init__(self, font):
        self._font = font
        # The sign that settles a pair, or None if it runs on; inner pairs come ahead of the pairs they are for.
        self._signs = {}

    def worked_out(self):
        """The dict from the pairs that have been worked out to their signs, inner pairs first."""
        return {pair: self._signs[pair] for pair in self._signs}

    def sign_for(self, left, right):
        """The sign that settles a pair, None if it runs on."""
        waiting = {}
        pair = (left, right)
        stack = [pair]
        while len(stack) > 0:
            top = stack[-1]
            if top in self._signs:
                stack.pop()
                continue
            waiting[top] = True
            inner = self._next_inner(top)
            if inner is None:
                stack.pop()
            elif inner in waiting:
                # The working comes to a pair that it is within: so all that wait for it run on.
                for one in stack:
                    self._signs[one] = None
            else:
                stack.append(inner)
        return self._signs[pair]

    def _next_inner(self, pair):
        """The next inner pair to be worked out for a pair; None if there is none more, and the sign is noted."""
        left, right = pair
        entry = self._font.entry_for(left, right)
        if not has_inner_pairs(entry):
            self._signs[pair] = own_sign(entry, right)
            return None
        inner = first_inner(entry, left, right)
        if inner not in self._signs:
            return inner
        sign = self._signs[inner]
        if entry[2] == "both" and sign is not None:
            inner = (sign, right)
            if inner not in self._signs:
                return inner
            sign = self._signs[inner]
        self._signs[pair] = sign
        return None


def endless_search(font, settling):
    """The least word whose walk does not end, None if there is none; works out all reached pairs till then."""
    words = {letter: letter for letter in font.letters}
    # The words come in their order, so the first one that leads to a sign is the least one.
    signs = list(font.letters)
    at = 0
    while at < len(signs):
        sign = signs[at]
        at += 1
        for letter in font.letters:
            behind = settling.sign_for(sign, letter)
            if behind is None:
                return words[sign] + letter
            if behind not in words:
                words[behind] = words[sign] + letter
                signs.append(behind)
    return None
