"""What the deeds of a press do, as `pagewright.press.reading` tells them."""

from pagewright.errors import Fault, InvalidNumber, InvalidOperation, PressError, TooMany, UnknownName
from pagewright.macro.macros import Macro, macro_of
from pagewright.press.present import STYLE_ROW, letter_tokens
from pagewright.text.sorts import SORTS


def signs_of_row(row):
    """The signs of a row of sign tokens, as a string."""
    if not all([token[0] == "sign" for token in row]):
        raise InvalidOperation("a word among signs")
    return "".join([token[1] for token in row])


def assign_value(engine, told, everywhere):
    """Gives a register a value."""
    _, _, kind, index, value = told
    engine.scope.assign(kind, index, value, everywhere=everywhere)


def add_value(engine, told, everywhere):
    """Adds to the value of a register."""
    _, _, kind, index, value = told
    engine.scope.assign(kind, index, engine.scope.value_of(kind, index) + value, everywhere=everywhere)


def assign_macro(engine, told, everywhere):
    """Gives a token a macro as its meaning."""
    _, word, name, parameters, body = told
    if word == "fulldefine":
        # Tokens of the sort `slot` that were doubled stand for themselves.
        macro = Macro((), body)
    else:
        macro = macro_of(parameters, body, is_long=word == "longdefine")
    engine.scope.assign("meaning", name, macro, everywhere=everywhere)


def assign_meaning(engine, told, everywhere):
    """Gives a token a meaning."""
    _, _, name, meaning = told
    engine.scope.assign("meaning", name, meaning, everywhere=everywhere)


def assign_sort(engine, told, everywhere):
    """Gives a sign a sort."""
    _, _, sign, sort = told
    word = signs_of_row(sort)
    if len(sign) != 1 or word not in SORTS:
        raise InvalidOperation("not one token, or no sort")
    engine.scope.assign("sort", sign[0][1], word, everywhere=everywhere)


def assign_style(engine, told, everywhere):
    """Makes another style the present one."""
    name = signs_of_row(told[2])
    if name not in engine.styles:
        raise Fault("style")
    engine.scope.assign("row", STYLE_ROW, letter_tokens(name), everywhere=everywhere)


ASSIGNMENTS = {
    "assign": assign_value,
    "add": add_value,
    "define": assign_macro,
    "let": assign_meaning,
    "change": assign_sort,
    "style": assign_style,
}


def assign_here(engine, told):
    """Makes a local assignment."""
    assign = ASSIGNMENTS[told[0]]
    assign(engine, told, False)


def assign_everywhere(engine, told):
    """Makes an assignment everywhere."""
    assign = ASSIGNMENTS[told[2][0]]
    assign(engine, told[2], True)


def put_behind(engine, told):
    """Puts a token behind the innermost group."""
    engine.scope.put_behind(told[2])


def put_sign(engine, told):
    """Puts a sign to the word at hand."""
    engine.begin_paragraph(False)
    engine.put_to_word(told[2])


def put_blank(engine, _):
    """Puts the glue between words."""
    top = engine.lists[-1]
    if top.is_column() or top.is_empty_list():
        return
    engine.flush_word()
    engine.put_item(("glue", engine.space_behind(top.word)))


def put_item(engine, told):
    """Puts an item into the present list."""
    engine.put_item(told[2])


def put_mark(engine, told):
    """Puts a mark into the present list."""
    engine.put_item(("mark", signs_of_row(told[2])))


def put_part(engine, told):
    """Puts a place where a word can be parted into the present list."""
    engine.begin_paragraph(False)
    words = [signs_of_row(row) for row in told[2]]
    parts = [() if word == "" else engine.items_of(word) for word in words]
    engine.put_item(("part", parts[0], parts[1], parts[2]))


def begin_with_indent(engine, _):
    """Begins a paragraph with its indent."""
    engine.begin_paragraph(False)


def begin_without_indent(engine, _):
    """Begins a paragraph without its indent."""
    engine.begin_paragraph(True)


def end_paragraph(engine, _):
    """Ends the paragraph, if the present list is one."""
    engine.end_paragraph()


def begin_list(engine, told):
    """Begins a box or a note, with its group."""
    _, word, to, spread, shift = told
    engine.begin_list(word, (to, spread, shift))


def begin_group(engine, _):
    """Begins a group."""
    engine.enter_group("group")


def end_group(engine, _):
    """Ends the innermost group, and the deed that began it."""
    engine.end_group()


def put_page_box(engine, _):
    """Puts the box of the page that goes out."""
    engine.put_page_box()


def finish_pages(engine, _):
    """Lets the last pages go out."""
    engine.finish_pages()


ACTIONS = {
    "assign": assign_here,
    "add": assign_here,
    "define": assign_here,
    "let": assign_here,
    "change": assign_here,
    "style": assign_here,
    "everywhere": assign_everywhere,
    "behind": put_behind,
    "sign": put_sign,
    "blank": put_blank,
    "item": put_item,
    "mark": put_mark,
    "part": put_part,
    "indent": begin_with_indent,
    "noindent": begin_without_indent,
    "par": end_paragraph,
    "list": begin_list,
    "open": begin_group,
    "close": end_group,
    "pagebox": put_page_box,
    "finish": finish_pages,
}


def do(engine, deed):
    """Does a deed; `Fault` if it cannot be done."""
    try:
        if deed[0] not in ("sign", "blank"):
            engine.flush_word()
        act = ACTIONS[deed[0]]
        act(engine, deed)
    except Fault:
        raise
    except (PressError, UnknownName, InvalidNumber, TooMany):
        raise Fault(deed[1]) from None
