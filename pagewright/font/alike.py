"""The search for words that two lists of hyphen patterns part unlike [8.6].

A word is read sign by sign, with a full stop ahead of it and one behind it. What is known of the signs that were read
is a *node*: the longest end of them with which some pattern begins. One gap of the word is the *mark*, at which both
lists are to differ; behind it the pair of its numbers by both lists is known as well, as far as patterns have ended.
A mark is settled when the node is shorter than what stands behind the mark: no pattern over it can end any more.
What is *wanted* at a mark is `"unlike"`, if both lists could have a point there, otherwise `"one"` or `"other"`, an
odd number by the list that could.
"""

STOP = "."


def holds(want, numbers):
    """Whether numbers by both lists are what is wanted."""
    one, other = numbers
    if want == "one":
        return one & 1 == 1
    if want == "other":
        return other & 1 == 1
    return (one ^ other) & 1 == 1


def telling_indices(want, one, other):
    """The indices at which the numbers of a pattern in both lists, or of zeros, can bring what is wanted."""
    if want == "one":
        return [index for index, number in enumerate(one) if number & 1 == 1]
    if want == "other":
        return [index for index, number in enumerate(other) if number & 1 == 1]
    return [index for index, (first, second) in enumerate(zip(one, other)) if first != second]


class Nodes:
    """All nodes of the patterns with some signs, for words of some letters."""

    def __init__(self, patterns, letters):
        self._letters = letters
        self._beginnings = {"": True}
        for signs in patterns:
            for end in range(1, len(signs) + 1):
                self._beginnings[signs[:end]] = True
        self.most_signs = max([len(signs) for signs in patterns], default=0)
        self._behind = {}
        self._further = {}
        layers = [[self.behind("", STOP)]]
        for _ in range(self.most_signs):
            layers.append(self._next_layer(layers[-1]))
        self._layers = layers

    def behind(self, node, sign):
        """The node behind a node and a sign."""
        if (node, sign) not in self._behind:
            end = node + sign
            while end not in self._beginnings:
                end = end[1:]
            self._behind[(node, sign)] = end
        return self._behind[(node, sign)]

    def further(self, node):
        """The list of the nodes behind a node and a letter."""
        if node not in self._further:
            found = {self.behind(node, letter): True for letter in self._letters}
            self._further[node] = list(found)
        return self._further[node]

    def _next_layer(self, nodes):
        """The list of the nodes behind some nodes and a letter."""
        found = {}
        for node in nodes:
            for further in self.further(node):
                found[further] = True
        return list(found)

    def layer(self, many):
        """The list of the nodes that so many letters of a word can lead to."""
        # With as many letters as a pattern has signs, the beginning of the word makes no difference any more.
        return self._layers[min(many, self.most_signs)]


class Search:
    """What is known of the marks of two lists."""

    def __init__(self, nodes, one, other):
        self.nodes = nodes
        self._limits = (one.front, one.end, other.front, other.end)
        self._tables = (one.table(), other.table())
        self._hopes = {want: self._hopes_for(want) for want in ("unlike", "one", "other")}
        self._ends = {}
        self._further = {}
        self._known = {}
        self._marks = {}
        self._known_marks = {}

    def _hopes_for(self, want):
        """The dict of pairs of a beginning of a pattern and an index in it, whose end can bring what is wanted."""
        one, other = self._tables
        hopes = {}
        for signs in [*one, *other]:
            zeros = (0,) * (len(signs) + 1)
            for index in telling_indices(want, one.get(signs, zeros), other.get(signs, zeros)):
                for end in range(index, len(signs)):
                    hopes[(signs[:end], index)] = True
        return hopes

    def _ends_at(self, node):
        """The list of the patterns that end with a node, as triples of their length and their numbers."""
        if node not in self._ends:
            one, other = self._tables
            found = []
            for length in range(1, len(node) + 1):
                signs = node[len(node) - length:]
                if signs in one or signs in other:
                    zeros = (0,) * (length + 1)
                    found.append((length, one.get(signs, zeros), other.get(signs, zeros)))
            self._ends[node] = found
        return self._ends[node]

    def want_at(self, ahead, behind):
        """What is wanted at a mark with so many letters ahead of it and behind it; None if nothing is a point."""
        front, end, other_front, other_end = self._limits
        is_of_one = ahead >= front and behind >= end
        is_of_other = ahead >= other_front and behind >= other_end
        if is_of_one and is_of_other:
            return "unlike"
        if is_of_one:
            return "one"
        if is_of_other:
            return "other"
        return None

    def raised(self, node, behind, numbers):
        """The numbers of a mark, so many signs ahead of the end of a node, with the patterns that end there."""
        one, other = numbers
        for length, of_one, of_other in self._ends_at(node):
            if length >= behind:
                one = max(one, of_one[length - behind])
                other = max(other, of_other[length - behind])
        return (one, other)

    def marked(self, want, node):
        """What is known of a mark that is made at a node."""
        return (want, node, 0, self.raised(node, 0, (0, 0)))

    def gone_on(self, mark, node):
        """What is known of a mark when one more sign has led to a node."""
        want, _, behind, numbers = mark
        return (want, node, behind + 1, self.raised(node, behind + 1, numbers))

    def is_settled(self, mark):
        """Whether no pattern over the mark can end any more."""
        return len(mark[1]) < mark[2]

    def _has_hope(self, mark):
        """Whether the mark is as it is wanted, or a pattern can come that changes it."""
        want, node, behind, numbers = mark
        if holds(want, numbers) or (want == "unlike" and numbers[0] != numbers[1]):
            return True
        hopes = self._hopes[want]
        for length in range(behind, len(node) + 1):
            if (node[len(node) - length:], length - behind) in hopes:
                return True
        return False

    def can_end(self, mark, left):
        """Whether a mark can be as it is wanted at the end of a word of which so many letters are left."""
        want, _, _, numbers = mark
        if self.is_settled(mark):
            return holds(want, numbers)
        key = (mark, min(left, self.nodes.most_signs))
        if key not in self._known:
            self._known[key] = self._finds_end(*key)
        return self._known[key]

    def _finds_end(self, mark, left):
        """As `can_end`, for a mark that is not settled."""
        node = mark[1]
        if left == 0:
            last = self.gone_on(mark, self.nodes.behind(node, STOP))
            return holds(last[0], last[3])
        for gone in self._gone_on_by_letters(mark):
            if self.can_end(gone, left - 1):
                return True
        return False

    def _gone_on_by_letters(self, mark):
        """The list of what a mark can be behind one more letter, but for what is without hope."""
        if mark not in self._further:
            found = [self.gone_on(mark, node) for node in self.nodes.further(mark[1])]
            self._further[mark] = list({gone: True for gone in found if self._has_hope(gone)})
        return self._further[mark]

    def can_mark(self, ahead, behind):
        """Whether a word with so many letters ahead of a mark and behind it can be as it is wanted there."""
        want = self.want_at(ahead, behind)
        most = self.nodes.most_signs
        key = (want, min(ahead, most), min(behind, most))
        if key not in self._known_marks:
            self._known_marks[key] = want is not None and self._finds_mark(*key)
        return self._known_marks[key]

    def _finds_mark(self, want, ahead, behind):
        """As `can_mark`, for what is wanted."""
        for mark in self._hopeful_marks(want, ahead):
            if self.can_end(mark, behind):
                return True
        return False

    def _hopeful_marks(self, want, ahead):
        """The list of the marks that so many letters can lead to, but for those without hope."""
        if (want, ahead) not in self._marks:
            marks = [self.marked(want, node) for node in self.nodes.layer(ahead)]
            self._marks[(want, ahead)] = [mark for mark in marks if self._has_hope(mark)]
        return self._marks[(want, ahead)]


class Words:
    """All words of so many letters that have unlike points by patterns alone."""

    def __init__(self, search, letters, many):
        self._search = search
        self._letters = letters
        self._many = many
        self._gaps = [gap for gap in range(1, many) if search.can_mark(gap, many - gap)]
        self._last = max(self._gaps, default=-1)
        self._known = {}

    def first_but(self, barred):
        """The first one that is no key of a dict, or None."""
        if len(self._gaps) == 0:
            return None
        word = ""
        states = [(self._search.nodes.behind("", STOP), [])]
        above = ""
        while True:
            letter, state = self._next_letter(len(word), states[-1], above)
            if letter is not None:
                word = word + letter
                states.append(state)
                above = ""
                if len(word) == self._many and word not in barred:
                    return word
            if letter is None and word == "":
                return None
            if letter is None or len(word) == self._many:
                above = word[-1]
                word = word[:-1]
                states.pop()

    def _next_letter(self, at, state, above):
        """The first letter above another one that can come behind so many ones, and the state behind it."""
        if at < self._many:
            for letter in self._letters:
                if letter > above:
                    behind = self._state_behind(at, state, letter)
                    if behind is not None:
                        return (letter, behind)
        return (None, None)

    def _state_behind(self, at, state, letter):
        """The node and the marks behind a letter; None if no unlike word begins so."""
        node, marks = state
        search = self._search
        if at in self._gaps:
            marks = [*marks, search.marked(search.want_at(at, self._many - at), node)]
        further = {}
        for mark in marks:
            gone = search.gone_on(mark, search.nodes.behind(mark[1], letter))
            if search.can_end(gone, self._many - at - 1):
                further[gone] = True
        node = search.nodes.behind(node, letter)
        if len(further) == 0 and not self._can_mark(node, at + 1):
            return None
        return (node, list(further))

    def _can_mark(self, node, at):
        """Whether a gap with at least so many letters ahead can be an unlike one, behind a node."""
        if self._last < at:
            return False
        # So many letters lead from any node to any other one.
        if self._last >= at + self._search.nodes.most_signs:
            return True
        if (node, at) not in self._known:
            self._known[(node, at)] = self._finds_mark(node, at)
        return self._known[(node, at)]

    def _finds_mark(self, node, at):
        """As `_can_mark`, by looking at this gap and behind it."""
        search = self._search
        left = self._many - at
        if at in self._gaps and search.can_end(search.marked(search.want_at(at, left), node), left):
            return True
        return any([self._can_mark(further, at + 1) for further in search.nodes.further(node)])
