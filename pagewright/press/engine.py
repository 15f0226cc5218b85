"""The engine of a press: its open lists, what is put into them, and the pages that go out."""

from pagewright.errors import BadUse, Fault, InvalidItem, InvalidNumber, PressError, TooMany, UnknownName
from pagewright.base.glue import Glue
from pagewright.box.items import is_column_item, is_row_item
from pagewright.box.packing import column_box, row_box
from pagewright.line.paragraphs import paragraph
from pagewright.line.words import glue_behind, items_of_word
from pagewright.macro.coming import Waiting
from pagewright.macro.machine import Machine
from pagewright.macro.scopes import MAX_LEVEL, Scope
from pagewright.press.deeds import do
from pagewright.press.lists import INNER_COLUMN, INNER_ROW, PARAGRAPH_ROW, Held, OpenList
from pagewright.press.present import present_style, style_of_paragraph
from pagewright.press.reading import read_deed
from pagewright.text.reader import Reader, tokens_of
from pagewright.text.sorts import SIGNS

PAGE_NUMBER = 94
OUTPUT_ROW = 90
MARK_ROWS = (91, 92, 93)
GLUE_AHEAD = 91


class Engine:
    """Does the deeds of a text, from what is held on."""

    def __init__(self, styles, limit, held, lines_ahead, most_out, most_open):
        self.styles = styles
        self.scope = Scope()
        self.scope.restore(held.scope_state)
        self.lists = held.lists
        self.entries = []
        self.made_boxes = []
        self.has_stopped = held.has_stopped
        self._limit = limit
        self._most_out = most_out
        self._most_open = most_open
        self._many_ahead = held.many_out
        self._builder = held.builder.twin()
        self._last_depth = held.last_depth
        self.reader = Reader(self.scope.sorts)
        self.machine = Machine(self.scope, self.reader, limit)
        self.machine.conditions = held.conditions
        self.machine.greatest_line = held.last_line
        self.machine.lines_ahead = lines_ahead
        # Where tokens come from now: the machine above, or one for the tokens of the row register 90.
        self._present = self.machine
        # While such tokens are done: how many lists are open with their column, and the box of the page, or None.
        self._page_box = None
        # The state of the scope ahead of the present deed, if this changes more than one thing in it.
        self._backup = None
        # A copy of the builder that is as it is now, or None.
        self._copy = held.builder

    def feed(self, piece):
        """Takes a piece of the text, and does all deeds whose tokens have come."""
        self.reader.feed(piece)
        self._run()

    def finish(self):
        """Ends the text."""
        self.reader.finish()
        self._run()
        if not self.has_stopped:
            self._attempt(("par", "par"))
        if not self.has_stopped:
            self._attempt(("finish", "ended"))

    def _run(self):
        """Does all deeds whose tokens have come."""
        while not self.has_stopped:
            mark = self.machine.mark()
            conditions = self.machine.conditions
            try:
                deed = told_deed(self.machine)
            except Waiting:
                self.machine.go_back(mark)
                self.machine.conditions = conditions
                return
            except Fault as fault:
                self._stop_for(fault.word)
                return
            if deed is None:
                return
            self._attempt(deed)

    def _attempt(self, deed):
        """Does a deed; nothing of it, if it cannot be done."""
        mark = (self.lists, len(self.made_boxes), len(self.entries))
        self._backup = None
        try:
            do(self, deed)
        except Fault as fault:
            self._go_back(mark)
            self._stop_for(fault.word)
        sorts = self.scope.sorts
        if sorts != self.reader.sorts:
            for sign in SIGNS:
                if sorts[sign] != self.reader.sorts[sign]:
                    self.reader.change(sign, sorts[sign])

    def _go_back(self, mark):
        """Makes all that can be told of a press that has stopped as it was ahead of a deed."""
        self.lists, many_boxes, many_entries = mark
        del self.made_boxes[many_boxes:]
        del self.entries[many_entries:]
        if self._backup is not None:
            self.scope.restore(self._backup)

    def _back_up(self):
        """Notes the state of the scope ahead of the first change that the present deed makes."""
        if self._backup is None:
            self._backup = self.scope.state

    def _stop_for(self, word):
        """Stops for a fault."""
        self.entries.append(("fault", self.machine.greatest_line, word))
        self.has_stopped = True

    def pages_out(self):
        """How many pages have gone out."""
        return self._many_ahead + len(self.made_boxes)

    def is_resting(self):
        """Whether no deed waits."""
        return self.has_stopped or self.machine.is_empty()

    def held_now(self):
        """All that is held at a place of rest."""
        if self._copy is None:
            self._copy = self._builder.twin()
        return Held(
            self.scope.state, self.lists, self.machine.conditions, self._copy, self._last_depth, self.pages_out(),
            self.machine.greatest_line, self.has_stopped,
        )

    def style_now(self):
        """The present style."""
        return present_style(self.scope, self.styles)

    def items_of(self, word):
        """The items of a word in the present style."""
        return items_of_word(self.style_now(), word)

    def space_behind(self, word):
        """The glue between words behind a word, which can be empty."""
        return glue_behind(self.style_now(), word)[1]

    def put_to_word(self, sign):
        """Puts a sign to the word at hand of the present list."""
        top = self.lists[-1]
        self._change_top(top.with_word(top.word + sign))

    def _change_top(self, changed):
        """Puts a list in the place of the present one."""
        self.lists = (*self.lists[:-1], changed)

    def flush_word(self):
        """Makes items of the word at hand."""
        top = self.lists[-1]
        if top.word == "":
            return
        try:
            items = self.items_of(top.word)
        except Fault:
            raise
        except (PressError, UnknownName, InvalidNumber, TooMany):
            raise Fault("word") from None
        self._change_top(top.with_items(items))

    def put_item(self, item):
        """Puts an item into the present list, which has no word at hand."""
        top = self.lists[-1]
        if len(self.lists) == 1:
            self._put_into_main_column(item)
        elif is_column_item(item) or (is_row_item(item) and not top.is_column()):
            self._change_top(top.with_items((item,)))
        else:
            raise InvalidItem("no item of the present list")

    def _put_into_main_column(self, item):
        """Puts an item into the main column, and lets the pages go out."""
        self._back_up()
        self._copy = None
        pages = self._builder.put(item)
        self._last_depth = depth_of_box(item)
        for page in pages:
            self._go_out(page)

    def finish_pages(self):
        """Ends the main column, and lets the last pages go out."""
        if self.scope.level > 0 or len(self.machine.conditions) > 0 or len(self.lists) > 1:
            raise Fault("ended")
        self._back_up()
        for page in self._builder.finish():
            self._go_out(page)

    def push_list(self, mode, told):
        """Begins a list."""
        if len(self.lists) == self._most_open:
            raise Fault("lists")
        self.lists = (*self.lists, OpenList(mode, told))

    def begin_paragraph(self, is_bare):
        """Begins a paragraph, without its indent or with it, if the present list is a column."""
        if self.lists[-1].is_column():
            self.push_list(PARAGRAPH_ROW, is_bare)

    def end_paragraph(self):
        """Ends the paragraph, if the present list is one."""
        top = self.lists[-1]
        if top.mode != PARAGRAPH_ROW:
            return
        self.lists = self.lists[:-1]
        if len(top.members) == 0:
            return
        try:
            self._put_lines(top)
        except Fault:
            raise
        except (PressError, UnknownName, InvalidNumber, TooMany):
            raise Fault("par") from None

    def _put_lines(self, top):
        """Puts the lines of a paragraph that has ended into the present list [17.8]."""
        style = style_of_paragraph(self.scope, self.styles, top.told)
        lines = paragraph(style, top.members, depth=self._depth_ahead())
        for item in lines:
            if item[0] == "box":
                self._note_excess(item[1])
        glue = self.scope.value_of("glue", GLUE_AHEAD)
        if glue != Glue(0):
            self.put_item(("glue", glue))
        for item in lines:
            self.put_item(item)

    def _depth_ahead(self):
        """The depth of the last item of the present list, if it is a box, otherwise None."""
        if len(self.lists) == 1:
            return self._last_depth
        members = self.lists[-1].members
        if len(members) == 0:
            return None
        return depth_of_box(members[-1])

    def _note_excess(self, box):
        """Notes in the log that a box is too full, if it is."""
        if box.excess > 0:
            self.entries.append(("full", self.machine.greatest_line, box.excess))

    def enter_group(self, word):
        """Begins a group."""
        if self.scope.level == MAX_LEVEL:
            raise Fault("group")
        self._back_up()
        self.scope.enter(word)

    def begin_list(self, word, told):
        """Begins a box or a note, with its group."""
        self.enter_group(word)
        if word == "rowbox":
            self.push_list(INNER_ROW, told)
        else:
            self.push_list(INNER_COLUMN, told)

    def end_group(self):
        """Ends the innermost group, and the deed that began it."""
        if self.scope.level == 0:
            raise Fault("group")
        word = self.scope.words[-1]
        if word == "output":
            raise Fault("output")
        self._back_up()
        if word == "group":
            self._leave_group()
            return
        self.end_paragraph()
        try:
            self._put_box(word)
        except (PressError, UnknownName, InvalidNumber, TooMany):
            raise Fault(word) from None

    def _leave_group(self):
        """Ends the innermost group in the scope."""
        self._present.put_tokens(self.scope.leave())

    def _put_box(self, word):
        """Ends the present list, and puts its box into the list around."""
        top = self.lists[-1]
        to, spread, shift = top.told
        if top.mode == INNER_ROW:
            box = row_box(top.members, to=to, spread=spread)
        else:
            box = column_box(top.members, to=to, spread=spread)
        self._note_excess(box)
        self.lists = self.lists[:-1]
        self._leave_group()
        if word == "note":
            self.put_item(("note", box))
        else:
            self.put_item(("box", box, shift))

    def _go_out(self, page):
        """Lets a page go out [17.9]."""
        if self.pages_out() == self._most_out:
            raise Fault("pages")
        self.scope.assign("number", PAGE_NUMBER, self.pages_out() + 1, everywhere=True)
        row = self.scope.value_of("row", OUTPUT_ROW)
        if row == ():
            self.made_boxes.append(page.box)
        else:
            self.made_boxes.append(self._output(page, row))

    def _output(self, page, row):
        """The column that the tokens of a row make of a page."""
        self.enter_group("output")
        self.push_list(INNER_COLUMN, None)
        for index, text in zip(MARK_ROWS, page.marks):
            self.scope.assign("row", index, tokens_of(text))
        level = self.scope.level
        self._page_box = (len(self.lists), page.box)
        self._present = Machine(self.scope, None, self._limit)
        self._present.put_tokens(row)
        deed = told_deed(self._present)
        while deed is not None:
            do(self, deed)
            deed = told_deed(self._present)
        if self.scope.level != level:
            raise Fault("output")
        self.flush_word()
        self.end_paragraph()
        if len(self._present.conditions) > 0:
            raise Fault("output")
        column = column_box(self.lists[-1].members)
        self.lists = self.lists[:-1]
        self._page_box = None
        self._present = self.machine
        self._leave_group()
        return column

    def put_page_box(self):
        """Puts the box of the page that goes out into its column."""
        if self._page_box is None or self._page_box[0] != len(self.lists):
            raise Fault("pagebox")
        _, box = self._page_box
        self.put_item(("box", box, 0))
        self._page_box = None


def depth_of_box(item):
    """The depth of an item that is a box, otherwise None."""
    if item[0] == "box":
        return item[1].depth
    return None


def told_deed(machine):
    """The next deed, None if no tokens come any more; `Fault` if it cannot be read."""
    try:
        return read_deed(machine)
    except BadUse:
        raise Fault("use") from None
    except TooMany:
        raise Fault("steps") from None
