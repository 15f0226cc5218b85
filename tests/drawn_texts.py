"""Styles, and texts for presses that are drawn from all deeds."""

from pagewright.base.glue import Glue
from pagewright.font.fonts import Font
from pagewright.font.hyphens import Patterns
from pagewright.line.styles import Style
from pagewright.page.builder import PageStyle

TEN = Font("ten", {"a": (10, 6, 0), "b": (10, 8, 2), "c": (9, 5, 1), "-": (5, 3, 0), ".": (3, 2, 0)}, {("a", "b"): ("kern", 1)})
STYLES = {
    "ten": Style(TEN, (55,), Glue(10, stretch=5, shrink=2), skip=Glue(12), patterns=Patterns(("a1b", "b1a"), front=1, end=1)),
    "wide": Style(TEN, (90,), Glue(8, stretch=4, shrink=2), skip=Glue(11), tolerance=1000),
}
PAGE = PageStyle(40)
WORDS = ("a", "b", "ab", "abab", "aab", "c", "ba")
DEEDS = (
    "\\indent ", "\\noindent ", "\\par ", "\\behind b", "\\define\\x{ab}\\x ", "\\define\\y#1{#1 #1}\\y{a}", "\\digits\\number94 ", "\\let\\z=a\\z ",
    "\\fulldefine\\w{\\x}", "\\ifnumber\\number3<5 a\\else b\\fi ", "\\iftrue a\n b\\fi ", "`comment\n", "\n", "\n\n", "\\keep\\par ", "\\add\\number3 4 ",
    "\\everywhere\\number5=\\number3 ", "\\part{-}{}{}", "\\rule 5u 6u 2u ", "\\row90={\\pagebox\\kern2u }", "\\row90={}",
    "\\row90={\\value\\row91 \\par\\pagebox{\\everywhere\\add\\number7 1 }}", "\\note{\\rowbox{ab}}", "\\note{ab aba}",
)
WRONG = ("\\nope ", "}", "{", "\\kern x", "\\fi ", "\\pagebox ", "\\number300=5 ")


def drawn_words(draw):
    return " ".join([draw.choice(WORDS) for _ in range(draw.randint(1, 6))]) + draw.choice((" ", "\n", "", "\n\n"))


def drawn_piece(draw, depth=0):
    chance = draw.random()
    if chance < 0.45:
        return drawn_words(draw)
    if chance < 0.46:
        return draw.choice(WRONG)
    if chance < 0.75:
        return draw.choice((
            f"\\kern{draw.randint(-3, 9)}u ", f"\\skip {draw.randint(0, 9)}u plus 3u minus 1u ", f"\\penalty{draw.choice((-10000, 0, 50, 100))} ",
            f"\\mark{{m{draw.choice('abc')}}}", f"\\number{draw.choice((3, 90, 91, 92, 93))}={draw.choice((0, 1, -1, 200, 1000))} ",
            f"\\length{draw.choice((90, 91))}={draw.choice((0, 30, 60))}u ", f"\\glue{draw.choice((90, 91))} {draw.choice((0, 12, 5))}u plus 1u ",
            f"\\style{{{draw.choice(('ten', 'wide'))}}}", f"\\change{{c}}{{{draw.choice(('other', 'letter', 'active', 'comment'))}}}"))
    if chance < 0.9 or depth == 3:
        return draw.choice(DEEDS)
    inner = "".join([drawn_piece(draw, depth + 1) for _ in range(draw.randint(0, 4))])
    ahead = draw.choice(("", f"\\rowbox to {draw.randint(5, 60)}u", "\\rowbox", "\\columnbox", "\\shift 3u\\rowbox", "\\columnbox spread 3u"))
    return ahead + "{" + inner + "}"


def drawn_text(draw, most=25):
    return "".join([drawn_piece(draw) for _ in range(draw.randint(1, most))])
