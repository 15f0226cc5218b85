"""Words: their items, the glue between them, and hyphens in them [12.1] [12.2]."""

from pagewright.errors import InvalidGlue, InvalidLength, InvalidOperation, TooMany, UnknownName
from pagewright.base.glue import Glue
from pagewright.base.lengths import scaled
from pagewright.box.items import MAX_ITEMS, letters_in
from pagewright.font.fonts import is_letter_of, set_word
from pagewright.font.hyphens import are_letters

HYPHEN = "-"
WHOLE = 1000


def items_of_word(style, word):
    """The items of a word in the font of the style."""
    font = style.font
    return tuple([item_of_piece(font, piece) for piece in set_word(font, word)])


def item_of_piece(font, piece):
    """The item for a piece of a set word."""
    if piece[0] == "kern":
        return piece
    return (piece[0], font, *piece[1:])


def items_or_none(style, word):
    """The items of a word, None if they are refused."""
    try:
        return items_of_word(style, word)
    except (InvalidOperation, UnknownName, TooMany):
        return None


def scaled_space(space, factor):
    """The space behind a character with a factor."""
    try:
        stretch = scaled(space.stretch, factor, WHOLE)
        shrink = scaled(space.shrink, WHOLE, factor)
    except InvalidLength:
        raise InvalidGlue("too much stretch or shrink") from None
    return Glue(
        space.natural, stretch=stretch, stretch_order=space.stretch_order,
        shrink=shrink, shrink_order=space.shrink_order,
    )


def glue_behind(style, word):
    """The item between a word and the next one; the word can be empty."""
    stops = style.stops
    if word != "" and word[-1] in stops:
        return ("glue", scaled_space(style.space, stops[word[-1]]))
    return ("glue", style.space)


def is_of_run(font, item):
    """Whether an item can be in a run of the font."""
    # A slice is compared, as tuples that hold the very same font are equal without a look into it.
    return item[0] == "kern" or (item[0] in ("letter", "join") and item[1:2] == (font,))


def runs_of(font, items):
    """The list of the items in pieces: greatest rows of items that can be in a run, and all others one by one."""
    pieces = []
    run = []
    for item in items:
        if is_of_run(font, item):
            run.append(item)
        else:
            pieces.append(tuple(run))
            pieces.append((item,))
            run = []
    pieces.append(tuple(run))
    return pieces


def core_of(word):
    """The first small letters of a word that stand side by side, and behind how many characters they do."""
    begin = 0
    while begin < len(word) and not are_letters(word[begin]):
        begin += 1
    end = begin
    while end < len(word) and are_letters(word[end]):
        end += 1
    return (word[begin:end], begin)


def places_for_parts(style, run, word):
    """The ascending list of the indices in the items of a word ahead of which it can be parted."""
    core, begin = core_of(word)
    if core == "":
        return []
    places = []
    for point in style.patterns.points(core):
        one = items_or_none(style, word[:begin + point])
        other = items_or_none(style, word[begin + point:])
        if one is not None and other is not None and one + other == run:
            places.append(len(one))
    return places


def parted(style, run):
    """The list of the items of a run, or of another piece, with the places put in where it can be parted."""
    if len(run) == 0 or not is_of_run(style.font, run[0]):
        return list(run)
    word = letters_in(run)
    if items_or_none(style, word) != run:
        return list(run)
    part = ("part", items_of_word(style, HYPHEN), (), ())
    found = []
    begin = 0
    for place in places_for_parts(style, run, word):
        found.extend(run[begin:place])
        found.append(part)
        begin = place
    found.extend(run[begin:])
    return found


def with_parts(style, items):
    """The tuple of items with hyphens put in [12.2]."""
    if style.patterns is None or not is_letter_of(style.font, HYPHEN):
        return items
    found = []
    for piece in runs_of(style.font, items):
        found.extend(parted(style, piece))
    if len(found) > MAX_ITEMS:
        raise TooMany(MAX_ITEMS)
    return tuple(found)
