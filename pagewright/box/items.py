"""Items, of which boxes are made."""

from pagewright.errors import InvalidItem
from pagewright.base.glue import Glue
from pagewright.base.integers import is_int
from pagewright.base.lengths import is_length
from pagewright.box.frames import Frame, held_frames
from pagewright.font.fonts import Font, is_letter_of
from pagewright.text.sorts import is_text

MAX_PENALTY = 10000
MAX_ITEMS = 2000

MOST_WITH_INNER = 1000000
NESTING_END = 100
MOST_SIGNS_OF_MARK = 100


def is_letter(value):
    """Whether a tuple is a letter of a font."""
    return len(value) == 3 and isinstance(value[1], Font) and is_letter_of(value[1], value[2])


def is_join(value):
    """Whether a tuple is a sign of a font with the letters of which it came."""
    if len(value) != 4 or not isinstance(value[1], Font):
        return False
    return value[2] in value[1] and isinstance(value[3], str)


def is_kern(value):
    """Whether a tuple is a fixed room."""
    return len(value) == 2 and is_length(value[1])


def is_glue(value):
    """Whether a tuple is a room that can stretch and shrink."""
    return len(value) == 2 and isinstance(value[1], Glue)


def is_penalty(value):
    """Whether a tuple is the cost of a break."""
    return len(value) == 2 and is_int(value[1]) and abs(value[1]) <= MAX_PENALTY


def is_forced(item):
    """Whether an item is a penalty at which a line or a page has to end."""
    return item[0] == "penalty" and item[1] == -MAX_PENALTY


def is_rule(value):
    """Whether a tuple is a black box."""
    return len(value) == 4 and all([size is None or is_length(size) for size in value[1:]])


def is_inner_frame(value):
    """Whether the value is a box that can be in an item."""
    return isinstance(value, Frame) and value.nesting < NESTING_END


def is_box(value):
    """Whether a tuple is a box with a shift."""
    return len(value) == 3 and is_inner_frame(value[1]) and is_length(value[2])


def is_part(value):
    """Whether a tuple is a place where a word can be parted."""
    return len(value) == 4 and all([are_of_word(told) for told in value[1:]])


def are_of_word(value):
    """Whether the value is a tuple of letters, joins and kerns."""
    if not isinstance(value, tuple) or len(value) > MAX_ITEMS:
        return False
    return all([is_item(item) and item[0] in ("letter", "join", "kern") for item in value])


def is_mark(value):
    """Whether a tuple is a text for the page."""
    return len(value) == 2 and is_text(value[1]) and len(value[1]) <= MOST_SIGNS_OF_MARK and "\n" not in value[1]


def is_note(value):
    """Whether a tuple is a column for the foot of the page."""
    return len(value) == 2 and is_inner_frame(value[1]) and value[1].kind == "column"


CHECKS = {
    "letter": is_letter,
    "join": is_join,
    "kern": is_kern,
    "glue": is_glue,
    "penalty": is_penalty,
    "rule": is_rule,
    "box": is_box,
    "part": is_part,
    "mark": is_mark,
    "note": is_note,
}
OF_COLUMNS = ("kern", "glue", "penalty", "rule", "box", "mark", "note")


def is_item(value):
    """Whether the value is an item [9.1]."""
    if not isinstance(value, tuple) or len(value) == 0 or not isinstance(value[0], str) or value[0] not in CHECKS:
        return False
    check = CHECKS[value[0]]
    return check(value)


def is_row_item(value):
    """Whether the value is an item of a row [9.2]."""
    return is_item(value) and (value[0] != "rule" or value[1] is not None)


def is_column_item(value):
    """Whether the value is an item of a column [9.2]."""
    if not is_item(value) or value[0] not in OF_COLUMNS:
        return False
    return value[0] != "rule" or (value[2] is not None and value[3] is not None)


def are_few(items):
    """Whether so many items can stand in a tuple, with those in boxes and notes."""
    many = len(items) + sum([frame.many_items for frame in held_frames(items)])
    return len(items) <= MAX_ITEMS and many <= MOST_WITH_INNER


def are_row_items(value):
    """Whether the value is a tuple of items of a row."""
    return isinstance(value, tuple) and all([is_row_item(item) for item in value]) and are_few(value)


def are_column_items(value):
    """Whether the value is a tuple of items of a column."""
    return isinstance(value, tuple) and all([is_column_item(item) for item in value]) and are_few(value)


def check_row_item(item):
    """Raises `InvalidItem` unless the value is an item of a row."""
    if not is_row_item(item):
        raise InvalidItem("no item of a row")


def width_of(item):
    """The width of an item in a row."""
    check_row_item(item)
    return width_in_row(item)


def width_in_row(item):
    """As `width_of`, for what is known to be an item of a row."""
    if item[0] in ("letter", "join"):
        return item[1].measures(item[2])[0]
    if item[0] in ("kern", "rule"):
        return item[1]
    if item[0] == "glue":
        return item[1].natural
    if item[0] == "box":
        return item[1].width
    if item[0] == "part":
        return sum([width_in_row(inner) for inner in item[3]])
    return 0


def height_of(item):
    """The height of an item in a row."""
    check_row_item(item)
    return height_in_row(item)


def height_in_row(item):
    """As `height_of`, for what is known to be an item of a row."""
    if item[0] in ("letter", "join"):
        return item[1].measures(item[2])[1]
    if item[0] == "rule" and item[2] is not None:
        return item[2]
    if item[0] == "box":
        return item[1].height - item[2]
    if item[0] == "part":
        return max([height_in_row(inner) for inner in item[3]], default=0)
    return 0


def depth_of(item):
    """The depth of an item in a row."""
    check_row_item(item)
    return depth_in_row(item)


def depth_in_row(item):
    """As `depth_of`, for what is known to be an item of a row."""
    if item[0] in ("letter", "join"):
        return item[1].measures(item[2])[2]
    if item[0] == "rule" and item[3] is not None:
        return item[3]
    if item[0] == "box":
        return item[1].depth + item[2]
    if item[0] == "part":
        return max([depth_in_row(inner) for inner in item[3]], default=0)
    return 0


def letters_of(items):
    """The letters of the text in items of a row or a column."""
    if not are_row_items(items) and not are_column_items(items):
        raise InvalidItem("no items of a row or a column")
    return letters_in(items)


def letters_in(items):
    """As `letters_of`, for what is known to be items."""
    parts = []
    for item in items:
        if item[0] == "letter":
            parts.append(item[2])
        elif item[0] == "join":
            parts.append(item[3])
        elif item[0] == "part":
            parts.append(letters_in(item[3]))
        elif item[0] == "box":
            parts.append(letters_in(item[1].content))
    return "".join(parts)
