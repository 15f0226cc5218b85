"""Fonts: their signs, how words are set by their kerns and joins, and whether this always ends."""

from pagewright.errors import InvalidFont, InvalidOperation, TooMany, UnknownName
from pagewright.base.integers import is_int
from pagewright.base.lengths import is_length
from pagewright.font.settling import Settling, endless_search, first_inner, has_inner_pairs, own_sign
from pagewright.text.sorts import is_text

MAX_SIGNS = 128
MAX_WORD = 60
MAX_STEPS = 10000

MOST_CHARACTERS = 4
MOST_LETTERS_OF_NAME = 20
SMALL_LETTERS = "abcdefghijklmnopqrstuvwxyz"
STAYS = ("none", "left", "right", "both")


def is_font_sign(value):
    """Whether the value is a sign of a font, of whatever font [7.1]."""
    if not is_text(value) or not 1 <= len(value) <= MOST_CHARACTERS:
        return False
    return " " not in value and "\n" not in value


def is_font_letter(value):
    """Whether the value is a letter of a font, of whatever font."""
    return is_font_sign(value) and len(value) == 1


def are_font_letters(value):
    """Whether the value is a string of such letters, perhaps of none."""
    return isinstance(value, str) and all([is_font_letter(letter) for letter in value])


def is_name(value):
    """Whether the value is a name of a font."""
    if not isinstance(value, str) or not 1 <= len(value) <= MOST_LETTERS_OF_NAME:
        return False
    return all([letter in SMALL_LETTERS for letter in value])


def are_measures(value):
    """Whether the value is a triple of a width, a height and a depth."""
    if not isinstance(value, tuple) or len(value) != 3:
        return False
    return all([is_length(size) and size >= 0 for size in value])


def are_signs(value):
    """Whether the value is a dict from signs to their measures."""
    if not isinstance(value, dict) or not 1 <= len(value) <= MAX_SIGNS:
        return False
    return all([is_font_sign(sign) and are_measures(value[sign]) for sign in value])


def is_sign_in(value, signs):
    """Whether the value is one of the signs that are keys of a dict."""
    return isinstance(value, str) and value in signs


def is_pair_in(value, signs):
    """Whether the value is a pair of such signs."""
    return isinstance(value, tuple) and len(value) == 2 and is_sign_in(value[0], signs) and is_sign_in(value[1], signs)


def is_entry(value, signs):
    """Whether the value is an entry of a program for such signs [7.2]."""
    if not isinstance(value, tuple) or len(value) == 0:
        return False
    if value[0] == "kern":
        return len(value) == 2 and is_length(value[1])
    if value[0] != "join" or len(value) != 3:
        return False
    return is_sign_in(value[1], signs) and isinstance(value[2], str) and value[2] in STAYS


def is_program(value, signs):
    """Whether the value is a program for such signs."""
    if not isinstance(value, dict):
        return False
    return all([is_pair_in(pair, signs) and is_entry(value[pair], signs) for pair in value])


class Font:
    """A font. It never changes."""

    def __init__(self, name, signs, program):
        if not is_name(name) or not are_signs(signs) or not is_program(program, signs):
            raise InvalidFont("no font")
        self._name = name
        self._signs = {sign: signs[sign] for sign in sorted(signs)}
        self._program = {pair: program[pair] for pair in sorted(program)}
        self._letters = tuple([sign for sign in self._signs if len(sign) == 1])

    @property
    def name(self):
        """The name."""
        return self._name

    @property
    def signs(self):
        """The ascending dict from the signs to their measures."""
        return dict(self._signs)

    @property
    def program(self):
        """The ascending dict from pairs of signs to their entries."""
        return {pair: self._program[pair] for pair in self._program}

    @property
    def letters(self):
        """The ascending tuple of the letters."""
        return self._letters

    def measures(self, sign):
        """The width, the height and the depth of a sign."""
        check_sign(self, sign)
        return self._signs[sign]

    def entry_for(self, left, right):
        """The entry of the program for a pair of signs, or None."""
        return self._program.get((left, right))

    def __contains__(self, x):
        return is_sign_in(x, self._signs)

    def __len__(self):
        return len(self._signs)

    def __iter__(self):
        return iter(self._signs)

    def __eq__(self, other):
        if not isinstance(other, Font) or self._name != other._name:
            return False
        return self._signs == other._signs and self._program == other._program

    def __str__(self):
        return f"font {self._name} of {len(self._signs)} signs"


def check_font(font):
    """Raises `InvalidFont` unless the value is a font."""
    if not isinstance(font, Font):
        raise InvalidFont("no font")


def check_sign(font, sign):
    """Raises `UnknownName` unless the value is a sign of the font."""
    if sign not in font:
        raise UnknownName(sign)


def is_letter_of(font, value):
    """Whether the value is a letter of the font."""
    return value in font and len(value) == 1


def check_word(font, word):
    """Raises the error of a word that is none of the font."""
    if not isinstance(word, str) or not 1 <= len(word) <= MAX_WORD:
        raise InvalidOperation("no word of one to sixty letters")
    for character in word:
        if not is_letter_of(font, character):
            raise UnknownName(character)


def is_endless(font, word):
    """Whether the walk of a word does not end."""
    settling = Settling(font)
    sign = word[0]
    for letter in word[1:]:
        sign = settling.sign_for(sign, letter)
        if sign is None:
            return True
    return False


def piece_of(told):
    """The piece for a sign, its letters, and whether it is a new one."""
    sign, letters, is_new = told
    if is_new:
        return ("join", sign, letters)
    return ("letter", sign)


def joined(entry, left, right):
    """The signs that come ahead of the cursor, at it, and behind it, by a join; each with its letters."""
    _, sign, stay = entry
    if stay == "none":
        return [(sign, left[1] + right[1], True)]
    if stay == "right":
        return [(sign, left[1], True), right]
    if stay == "left":
        return [left, (sign, right[1], True)]
    return [left, (sign, "", True), right]


def set_word(font, word):
    """The tuple of the pieces of a word [7.3]."""
    check_font(font)
    check_word(font, word)
    if is_endless(font, word):
        raise InvalidOperation("the walk does not end")
    # What is at the cursor and behind it stands in the other order, so that its beginning is changed at an end.
    coming = [(letter, letter, False) for letter in reversed(list(word))]
    pieces = []
    steps = 0
    while len(coming) > 1:
        steps += 1
        if steps > MAX_STEPS:
            raise TooMany(MAX_STEPS)
        left = coming.pop()
        entry = font.entry_for(left[0], coming[-1][0])
        if entry is None or entry[0] == "kern":
            pieces.append(piece_of(left))
            if entry is not None:
                pieces.append(entry)
        else:
            right = coming.pop()
            coming.extend(joined(entry, left, right)[::-1])
    pieces.append(piece_of(coming[0]))
    return tuple(pieces)


def settled(font, left, right):
    """The sign that settles a pair, None if it runs on."""
    check_font(font)
    check_sign(font, left)
    check_sign(font, right)
    return Settling(font).sign_for(left, right)


def is_piece(value):
    """Whether the value is a piece of some font [7.5]."""
    if not isinstance(value, tuple) or len(value) < 2:
        return False
    if value[0] == "kern":
        return len(value) == 2 and is_length(value[1])
    if value[0] == "letter":
        return len(value) == 2 and is_font_letter(value[1])
    return value[0] == "join" and len(value) == 3 and is_font_sign(value[1]) and are_font_letters(value[2])


def check_pieces(pieces):
    """Raises `InvalidOperation` unless the value is a tuple of pieces."""
    if not isinstance(pieces, tuple) or not all([is_piece(piece) for piece in pieces]):
        raise InvalidOperation("no tuple of pieces")


def letters_of(pieces):
    """The letters of all pieces."""
    check_pieces(pieces)
    return "".join([piece[-1] for piece in pieces if piece[0] != "kern"])


def width_of(font, pieces):
    """The sum of the widths of all signs and kerns."""
    check_font(font)
    check_pieces(pieces)
    total = 0
    for piece in pieces:
        if piece[0] == "kern":
            total += piece[1]
        elif piece[1] in font:
            total += font.measures(piece[1])[0]
        else:
            raise InvalidOperation("a sign of another font")
    return total


def endless_word(font):
    """The least word whose walk does not end, or None."""
    check_font(font)
    return endless_search(font, Settling(font))


def ending_paper(font):
    """An ending paper, or None [7.8]."""
    check_font(font)
    settling = Settling(font)
    if endless_search(font, settling) is not None:
        return None
    signs = settling.worked_out()
    # Inner pairs were worked out ahead of the pairs that they are for, so the places in this order are ranks.
    paper = {pair: (signs[pair], rank) for rank, pair in enumerate(signs)}
    return {pair: paper[pair] for pair in sorted(paper)}


def is_ending_paper(font, value):
    """Whether the value is an ending paper for the font."""
    check_font(font)
    if not isinstance(value, dict) or not all([is_note(font, pair, value[pair]) for pair in value]):
        return False
    return all([is_right(font, value, pair) for pair in value]) and has_all(font, value)


def is_note(font, pair, told):
    """Whether both are a pair of signs, and a sign with a rank."""
    if not is_pair_in(pair, font) or not isinstance(told, tuple) or len(told) != 2:
        return False
    return told[0] in font and is_int(told[1]) and told[1] >= 0


def is_right(font, paper, pair):
    """Whether the inner pairs of a pair have lower ranks in a paper, and tell its sign."""
    left, right = pair
    sign, rank = paper[pair]
    entry = font.entry_for(left, right)
    if not has_inner_pairs(entry):
        return sign == own_sign(entry, right)
    inner = first_inner(entry, left, right)
    if inner not in paper or paper[inner][1] >= rank:
        return False
    if entry[2] == "both":
        inner = (paper[inner][0], right)
        if inner not in paper or paper[inner][1] >= rank:
            return False
    return sign == paper[inner][0]


def has_all(font, paper):
    """Whether a paper has each pair that is asked for by it."""
    known = {letter: True for letter in font.letters}
    present = list(font.letters)
    while len(present) > 0:
        sign = present.pop()
        for letter in font.letters:
            if (sign, letter) not in paper:
                return False
            behind, _ = paper[(sign, letter)]
            if behind not in known:
                known[behind] = True
                present.append(behind)
    return True
