"""Hyphen patterns: where words can be parted, and whether two lists of patterns part all words alike."""

from pagewright.errors import InvalidNumber, InvalidOperation, InvalidPatterns
from pagewright.base.integers import is_int
from pagewright.font.alike import Nodes, Search, Words

MAX_PATTERNS = 100
MAX_PATTERN_SIGNS = 8
MAX_EXCEPTIONS = 50
MAX_LETTERS = 60

LETTERS = "abcdefghijklmnopqrstuvwxyz"
DIGITS = "0123456789"
STOP = "."


def are_letters(text):
    """Whether a string has small letters alone."""
    return all([letter in LETTERS for letter in text])


def is_word(value):
    """Whether the value is a word [8.1]."""
    return isinstance(value, str) and 1 <= len(value) <= MAX_LETTERS and are_letters(value)


def are_signs(value):
    """Whether the value is a string of the signs of some pattern [8.2]."""
    if not isinstance(value, str) or len(value) > MAX_PATTERN_SIGNS:
        return False
    letters = value.removeprefix(STOP).removesuffix(STOP)
    return letters != "" and are_letters(letters)


def parts_of(text):
    """The signs of a text that may be a pattern, and the digits told ahead of each sign and behind the last one."""
    signs = ""
    digits = [""]
    for character in text:
        if character in DIGITS:
            digits[-1] = digits[-1] + character
        else:
            signs = signs + character
            digits.append("")
    return (signs, digits)


def is_pattern(value):
    """Whether the value is a pattern [8.2]."""
    if not isinstance(value, str):
        return False
    signs, digits = parts_of(value)
    if not are_signs(signs) or max([len(told) for told in digits]) > 1:
        return False
    return are_free_at_stops(signs, [told == "" for told in digits])


def are_free_at_stops(signs, are_free):
    """Whether nothing is told ahead of a full stop that is the first sign, and behind one that is the last one."""
    if signs[0] == STOP and not are_free[0]:
        return False
    return signs[-1] != STOP or are_free[-1]


def check_pattern(pattern):
    """Raises `InvalidPatterns` unless the value is a pattern."""
    if not is_pattern(pattern):
        raise InvalidPatterns("no pattern")


def signs_of(pattern):
    """The signs of a pattern, as one string."""
    check_pattern(pattern)
    return parts_of(pattern)[0]


def numbers_of(pattern):
    """The tuple of the numbers of a pattern, ahead of each sign and behind the last one."""
    check_pattern(pattern)
    return tuple([0 if told == "" else int(told) for told in parts_of(pattern)[1]])


def are_numbers(value, many):
    """Whether the value is a tuple of so many numbers of one digit."""
    if not isinstance(value, tuple) or len(value) != many:
        return False
    return all([is_int(number) and 0 <= number <= 9 for number in value])


def pattern_text(signs, numbers):
    """The pattern with these signs and numbers, without a digit 0."""
    if not are_signs(signs) or not are_numbers(numbers, len(signs) + 1):
        raise InvalidPatterns("no signs or numbers of a pattern")
    if not are_free_at_stops(signs, [number == 0 for number in numbers]):
        raise InvalidPatterns("a number beyond a full stop")
    digits = ["" if number == 0 else str(number) for number in numbers]
    parts = [digit + sign for digit, sign in zip(digits, signs)]
    return "".join([*parts, digits[-1]])


def word_of(exception):
    """The word of an exception."""
    return exception.replace("-", "")


def is_exception(value):
    """Whether the value is an exception [8.4]."""
    if not isinstance(value, str) or not is_word(word_of(value)):
        return False
    return "" not in value.split("-")


def gaps_of(exception):
    """The list of the gaps at which an exception has a hyphen."""
    gaps = []
    many = 0
    for part in exception.split("-"):
        many += len(part)
        gaps.append(many)
    return gaps[:-1]


def is_limit(value):
    """Whether the value is a number for `front` or `end`."""
    return is_int(value) and 1 <= value <= MAX_LETTERS


def are_patterns(value):
    """Whether the value is a tuple of patterns, no two with the same signs."""
    if not isinstance(value, tuple) or len(value) > MAX_PATTERNS:
        return False
    if not all([is_pattern(pattern) for pattern in value]):
        return False
    return len({signs_of(pattern): True for pattern in value}) == len(value)


def are_exceptions(value):
    """Whether the value is a tuple of exceptions, no two of the same word."""
    if not isinstance(value, tuple) or len(value) > MAX_EXCEPTIONS:
        return False
    if not all([is_exception(exception) for exception in value]):
        return False
    return len({word_of(exception): True for exception in value}) == len(value)


class Patterns:
    """A list of hyphen patterns, with exceptions and limits. It never changes."""

    def __init__(self, patterns, *, exceptions=(), front=2, end=2):
        if not are_patterns(patterns) or not are_exceptions(exceptions) or not is_limit(front) or not is_limit(end):
            raise InvalidPatterns("no list of patterns")
        self._patterns = patterns
        self._exceptions = exceptions
        self._front = front
        self._end = end
        self._numbers = {signs_of(pattern): numbers_of(pattern) for pattern in patterns}
        self._gaps = {word_of(exception): gaps_of(exception) for exception in exceptions}

    @property
    def patterns(self):
        """The tuple of the patterns."""
        return self._patterns

    @property
    def exceptions(self):
        """The tuple of the exceptions."""
        return self._exceptions

    @property
    def front(self):
        """How many letters stand ahead of each point, at least."""
        return self._front

    @property
    def end(self):
        """How many letters stand behind each point, at least."""
        return self._end

    @property
    def longest(self):
        """The greatest number of signs of a pattern, 0 without patterns."""
        return max([len(signs) for signs in self._numbers], default=0)

    def table(self):
        """The dict from the signs of the patterns to their numbers."""
        return dict(self._numbers)

    def words_of_exceptions(self):
        """The list of the words of the exceptions."""
        return list(self._gaps)

    def numbers(self, word):
        """The tuple of the numbers of all gaps of a word, by patterns alone [8.3]."""
        check_word(word)
        text = f".{word}."
        # Those ahead of the first full stop and behind the last one are of no gap, and always 0.
        greatest = [0] * (len(text) + 1)
        for signs, numbers in self._numbers.items():
            for place in range(len(text) - len(signs) + 1):
                if text[place:place + len(signs)] == signs:
                    for index, number in enumerate(numbers):
                        greatest[place + index] = max(greatest[place + index], number)
        return tuple(greatest[1:-1])

    def points(self, word):
        """The ascending tuple of the points of a word [8.5]."""
        check_word(word)
        if word in self._gaps:
            gaps = self._gaps[word]
        else:
            gaps = [gap for gap, number in enumerate(self.numbers(word)) if number & 1 == 1]
        return tuple([gap for gap in gaps if self._front <= gap <= len(word) - self._end])

    def parted(self, word):
        """The word with a hyphen at each point."""
        places = [0, *self.points(word), len(word)]
        return "-".join([word[begin:end] for begin, end in zip(places, places[1:])])

    def without(self, index):
        """The list without the pattern with an index."""
        if not is_int(index) or not 0 <= index < len(self._patterns):
            raise InvalidNumber(index)
        patterns = self._patterns[:index] + self._patterns[index + 1:]
        return Patterns(patterns, exceptions=self._exceptions, front=self._front, end=self._end)

    def with_limits(self, front, end):
        """The list with other limits."""
        for limit in (front, end):
            if not is_limit(limit):
                raise InvalidNumber(limit)
        return Patterns(self._patterns, exceptions=self._exceptions, front=front, end=end)

    def __contains__(self, x):
        return isinstance(x, str) and x in self._patterns

    def __len__(self):
        return len(self._patterns)

    def __iter__(self):
        return iter(self._patterns)

    def __eq__(self, other):
        if not isinstance(other, Patterns) or self._front != other._front or self._end != other._end:
            return False
        return self._numbers == other._numbers and self._gaps == other._gaps

    def __str__(self):
        return f"patterns {len(self._patterns)}, exceptions {len(self._exceptions)}"


def check_word(word):
    """Raises `InvalidOperation` unless the value is a word."""
    if not is_word(word):
        raise InvalidOperation("no word")


def check_patterns(value):
    """Raises `InvalidPatterns` unless the value is a list of patterns."""
    if not isinstance(value, Patterns):
        raise InvalidPatterns("no list of patterns")


def check_letters(letters):
    """Raises `InvalidOperation` unless the value is a string of different ascending letters."""
    if not isinstance(letters, str) or letters == "" or not are_letters(letters):
        raise InvalidOperation("no letters")
    if "".join(sorted(set(letters))) != letters:
        raise InvalidOperation("no ascending letters")


def are_of(letters, signs):
    """Whether signs are of some letters, but for full stops."""
    return all([sign == STOP or sign in letters for sign in signs])


def nodes_for(patterns, letters):
    """The nodes for the patterns of a list of signs that words of some letters can have."""
    return Nodes([signs for signs in patterns if are_of(letters, signs)], letters)


def most_letters(one, other):
    """The most letters that the least unlike word of two lists can have [8.6]."""
    signs = max(one.longest, other.longest)
    front = max(one.front, other.front)
    end = max(one.end, other.end)
    words = [*one.words_of_exceptions(), *other.words_of_exceptions()]
    return max([max(signs, front) + max(signs, end)] + [len(word) + 1 for word in words])


def least_of_search(one, other, letters, search):
    """The least word of some letters that has unlike points by two lists, or None."""
    words = {word: True for word in [*one.words_of_exceptions(), *other.words_of_exceptions()]}
    unlike = [word for word in words if are_of(letters, word) and one.points(word) != other.points(word)]
    least = min([len(word) for word in unlike], default=most_letters(one, other))
    for many in range(2, least + 1):
        found = Words(search, letters, many).first_but(words)
        if found is not None:
            return min([found] + [word for word in unlike if len(word) == many])
    return min([word for word in unlike if len(word) == least], default=None)


def are_alike(one, other, letters):
    """Whether two lists are alike over some letters [8.6]."""
    return least_unlike(one, other, letters) is None


def least_unlike(one, other, letters):
    """The least word of some letters that has unlike points by two lists, or None."""
    check_patterns(one)
    check_patterns(other)
    check_letters(letters)
    nodes = nodes_for([*one.table(), *other.table()], letters)
    return least_of_search(one, other, letters, Search(nodes, one, other))


def idle_patterns(patterns, letters):
    """The ascending tuple of the indices of the patterns that are idle [8.7]."""
    check_patterns(patterns)
    check_letters(letters)
    nodes = nodes_for(patterns.table(), letters)
    idle = []
    for index in range(len(patterns)):
        other = patterns.without(index)
        if least_of_search(patterns, other, letters, Search(nodes, patterns, other)) is None:
            idle.append(index)
    return tuple(idle)
